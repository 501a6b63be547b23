/- Lemmas on the way. -/
import Derived.Test.YtaibkchbkedjnaaGreatDoorMpG
import Derived.Test.YtaibkchbkedjnaaGreatDoorBit1
import Derived.Deep.RegionHeld3
import Derived.Deep.RegionWith
import Derived.Test.YtaibkchbkedjnaaGreatDoorIParts
import Derived.Test.YtaibkchbkedjnaaGreatDoorPkS
set_option maxRecDepth 20000
set_option maxHeartbeats 16000000
namespace Go.Proofs.YtaibkchbkedjnaaGreatDoor
open Go.RowKit
set_option linter.unusedVariables false
set_option linter.unusedSimpArgs false
structure Atl (w:World) (R M:Nat) (a:Option Addr) (n c:Nat):Prop where
 blk:w.heap[R]?=some (.cells #[.slice a n c,.map (some M)] 180 (0,0))
theorem Atl.c0 {w:World} {R M:Nat} {a:Option Addr} {n c:Nat} (h:Atl w R M a n c):w.cell? ⟨R,0,none⟩=some (.slice a n c):=by
 rw [cell_of_row w R 0 _ _ (0,0) h.blk];rfl
theorem Atl.c1 {w:World} {R M:Nat} {a:Option Addr} {n c:Nat} (h:Atl w R M a n c):w.cell? ⟨R,1,none⟩=some (.map (some M)):=by
 rw [cell_of_row w R 1 _ _ (0,0) h.blk];rfl
theorem Atl.lt {w:World} {R M:Nat} {a:Option Addr} {n c:Nat} (h:Atl w R M a n c):R<w.heap.size:=(Array.getElem?_eq_some_iff.1 h.blk).1
theorem Atl.below {w w':World} {R M:Nat} {a:Option Addr} {n c:Nat} (h:Atl w R M a n c) (hb:Below w.heap.size w w'):Atl w' R M a n c:=⟨(hb.block R h.lt).trans h.blk⟩
theorem isTaken1_any (R M P Q:Nat) (a:Option Addr) (c:Nat) (ps:List (Int × Int)) (z x y:Int) (w:World) (hA:Atl w R M a ps.length c) (hb:Pls w a ps) (hn:ps.length≤1048576)
  (hP:w.cell? ⟨P,0,none⟩=some (.pointer (some ⟨R,0,none⟩))) (hQ0:w.cell? ⟨Q,0,none⟩=some (.int .i64 x)) (hQ1:w.cell? ⟨Q,1,none⟩=some (.int .i64 y)) (hPl:P<w.heap.size) (hQl:Q<w.heap.size) :
  Calls Tryz.prog 205 #[.int .i64 z,.pointer (some ⟨P,0,none⟩),.pointer (some ⟨Q,0,none⟩)] w fun e w'=>e=.returned (.bool (plcO ps z == (x,y)))∧Below w.heap.size w w':=by
 have hR:=hA.lt
 have HPO:=placeOf_any a c ps z w.drew hb hn
 have HC:Hid (w.cell? ⟨P,0,none⟩=some (.pointer (some ⟨R,0,none⟩))∧w.cell? ⟨R,0,none⟩=some (.slice a ps.length c)∧w.cell? ⟨Q,0,none⟩=some (.int .i64 x)∧w.cell? ⟨Q,1,none⟩=some (.int .i64 y)):=⟨hP,hA.c0,hQ0,hQ1⟩
 clear hb hA hP hQ0 hQ1
 generalize plcO ps z=q at *
 obtain ⟨x2,y2⟩:=q
 simp only at HPO
 have key:(x2=x∧y2=y)∨¬x2=x∨(x2=x∧¬y2=y):=by omega
 rcases key with ⟨rfl,rfl⟩ | h | ⟨rfl,h⟩
 ·rw [show ((x2,y2) == (x2,y2))=true from by simp]
  go_enter Tryz.func205,Tryz.ntmps205
  go_wp2_with fail
  go_region_held3 (fun W=>W.cell? ⟨P,0,none⟩=some (.pointer (some ⟨R,0,none⟩))∧W.cell? ⟨R,0,none⟩=some (.slice a ps.length c)∧W.cell? ⟨Q,0,none⟩=some (.int .i64 x2)∧W.cell? ⟨Q,1,none⟩=some (.int .i64 y2))
   (first | exact HC.out | exact HC8.out)
   (first
    | (go_at_call 137;refine HPO.mono ?_;rintro e w8 ⟨rfl,hb8'⟩;have hb8:=Below.drewS hb8';have HC8:Hid (w8.cell? ⟨P,0,none⟩=some (.pointer (some ⟨R,0,none⟩))∧w8.cell? ⟨R,0,none⟩=some (.slice a ps.length c)∧w8.cell? ⟨Q,0,none⟩=some (.int .i64 x2)∧w8.cell? ⟨Q,1,none⟩=some (.int .i64 y2)):=⟨keep hb8 hPl HC.out.1,keep hb8 hR HC.out.2.1,keep hb8 hQl HC.out.2.2.1,keep hb8 hQl HC.out.2.2.2⟩))
  go_wp2
  go_ret
  exact ⟨rfl,hb8⟩
 ·rw [show ((x2,y2) == (x,y))=false from by simp;exact fun e=>absurd e h]
  go_enter Tryz.func205,Tryz.ntmps205
  go_wp2_with fail
  go_region_held3 (fun W=>W.cell? ⟨P,0,none⟩=some (.pointer (some ⟨R,0,none⟩))∧W.cell? ⟨R,0,none⟩=some (.slice a ps.length c)∧W.cell? ⟨Q,0,none⟩=some (.int .i64 x)∧W.cell? ⟨Q,1,none⟩=some (.int .i64 y))
   (first | exact HC.out | exact HC8.out)
   (first
    | (go_at_call 137;refine HPO.mono ?_;rintro e w8 ⟨rfl,hb8'⟩;have hb8:=Below.drewS hb8';have HC8:Hid (w8.cell? ⟨P,0,none⟩=some (.pointer (some ⟨R,0,none⟩))∧w8.cell? ⟨R,0,none⟩=some (.slice a ps.length c)∧w8.cell? ⟨Q,0,none⟩=some (.int .i64 x)∧w8.cell? ⟨Q,1,none⟩=some (.int .i64 y)):=⟨keep hb8 hPl HC.out.1,keep hb8 hR HC.out.2.1,keep hb8 hQl HC.out.2.2.1,keep hb8 hQl HC.out.2.2.2⟩))
  go_wp2
  go_ret
  exact ⟨rfl,hb8⟩
 ·rw [show ((x2,y2) == (x2,y))=false from by simp;exact h]
  go_enter Tryz.func205,Tryz.ntmps205
  go_wp2_with fail
  go_region_held3 (fun W=>W.cell? ⟨P,0,none⟩=some (.pointer (some ⟨R,0,none⟩))∧W.cell? ⟨R,0,none⟩=some (.slice a ps.length c)∧W.cell? ⟨Q,0,none⟩=some (.int .i64 x2)∧W.cell? ⟨Q,1,none⟩=some (.int .i64 y))
   (first | exact HC.out | exact HC8.out)
   (first
    | (go_at_call 137;refine HPO.mono ?_;rintro e w8 ⟨rfl,hb8'⟩;have hb8:=Below.drewS hb8';have HC8:Hid (w8.cell? ⟨P,0,none⟩=some (.pointer (some ⟨R,0,none⟩))∧w8.cell? ⟨R,0,none⟩=some (.slice a ps.length c)∧w8.cell? ⟨Q,0,none⟩=some (.int .i64 x2)∧w8.cell? ⟨Q,1,none⟩=some (.int .i64 y)):=⟨keep hb8 hPl HC.out.1,keep hb8 hR HC.out.2.1,keep hb8 hQl HC.out.2.2.1,keep hb8 hQl HC.out.2.2.2⟩))
  go_wp2
  go_ret
  exact ⟨rfl,hb8⟩
structure TkW (w:World) (R M P Q:Nat) (a:Option Addr) (c:Nat) (ps:List (Int × Int)) (x y:Int):Prop where
 atl:Atl w R M a ps.length c
 pls:Pls w a ps
 hP:w.cell? ⟨P,0,none⟩=some (.pointer (some ⟨R,0,none⟩))
 hQ0:w.cell? ⟨Q,0,none⟩=some (.int .i64 x)
 hQ1:w.cell? ⟨Q,1,none⟩=some (.int .i64 y)
 hPl:P<w.heap.size
 hQl:Q<w.heap.size
theorem TkW.below {w w':World} {R M P Q:Nat} {a:Option Addr} {c:Nat} {ps:List (Int × Int)} {x y:Int} (h:TkW w R M P Q a c ps x y) (hb:Below w.heap.size w w'):TkW w' R M P Q a c ps x y:=
 ⟨h.atl.below hb,h.pls.below hb nl,keep hb h.hPl h.hP,keep hb h.hQl h.hQ0,keep hb h.hQl h.hQ1,Nat.lt_of_lt_of_le h.hPl hb.size,Nat.lt_of_lt_of_le h.hQl hb.size⟩
def anyT (ps:List (Int × Int)) (p:Int × Int) (zs:List Int):Bool:=zs.any (fun z=>plcO ps z == p)
theorem anyT_succ (ps:List (Int × Int)) (p:Int × Int) (zs:List Int) (k:Nat) (h:k<zs.length):anyT ps p (zs.take (k+1))=(anyT ps p (zs.take k) || (plcO ps (zs.getD k 0) == p)):=by
 unfold anyT
 rw [List.take_succ_eq_append_getElem h,List.any_append]
 simp [List.getD_eq_getElem?_getD,List.getElem?_eq_getElem h]
theorem anyT_hit (ps:List (Int × Int)) (p:Int × Int) (zs:List Int) (k:Nat) (h:k<zs.length) (h2:(plcO ps (zs.getD k 0) == p)=true):anyT ps p zs=true:=by
 unfold anyT
 rw [List.any_eq_true]
 refine ⟨zs.getD k 0,?_,h2⟩
 rw [List.getD_eq_getElem?_getD,List.getElem?_eq_getElem h];exact List.getElem_mem h
theorem indexFunc_any (R M P Q:Nat) (a:Option Addr) (c:Nat) (ps:List (Int × Int)) (x y:Int) (za:Option Addr) (zc:Nat) (zs:List Int) (w:World) (hT:TkW w R M P Q a c ps x y) (hz:Ins w za zs) (hn:ps.length≤1048576) (hzn:zs.length≤1048576) :
  Calls Tryz.prog 220 #[.slice za zs.length zc,.func (.func 205) #[] #[.pointer (some ⟨P,0,none⟩),.pointer (some ⟨Q,0,none⟩)]] w fun e w'=>
   (∃ r:Int,e=.returned (.int .i64 r)∧((anyT ps (x,y) zs=true∧0≤r)∨(anyT ps (x,y) zs=false∧r=-1)))∧Below w.heap.size w w':=by
 have HT:Hid (TkW w R M P Q a c ps x y):=hT
 have HZ:Hid (Ins w za zs):=hz
 have HH:Hid (∀ k,k<zs.length→(plcO ps (zs.getD k 0) == (x,y))=true→anyT ps (x,y) zs=true):=fun k h h2=>anyT_hit ps (x,y) zs k h h2
 have HU:Hid (∀ k,k<zs.length→anyT ps (x,y) (zs.take (k+1))=(anyT ps (x,y) (zs.take k) || (plcO ps (zs.getD k 0) == (x,y)))):=fun k h=>anyT_succ ps (x,y) zs k h
 have HE:Hid (anyT ps (x,y) (zs.take zs.length)=anyT ps (x,y) zs∧anyT ps (x,y) (zs.take 0)=false):=⟨by rw [List.take_length],rfl⟩
 clear hT hz
 generalize hlen:zs.length=n at *
 have HL:Hid (zs.length=n∧True):=⟨hlen,trivial⟩
 clear hlen
 generalize anyT ps (x,y) zs=r0 at *
 go_enter Tryz.func220,Tryz.ntmps220
 go_wp2
 go_loopw [8] (fun i wr=>∃ k:Nat,k≤n∧i=.int .i64 k∧anyT ps (x,y) (zs.take k)=false∧Below w.heap.size w wr) (fun i _=>n-(intOf i).toNat)
 case atStart=>exact ⟨0,Nat.zero_le _,rfl,HE.out.2,Below.refl _ _⟩
 case round=>
  obtain ⟨k,hk,rfl,han,hbel⟩:=hrel
  have HAN:Hid (anyT ps (x,y) (zs.take k)=false∧True):=⟨han,trivial⟩
  clear han
  by_cases hlt:k<n
  ·obtain ⟨b,off,rfl,hb1,hc1⟩:=(HZ.out.below hbel nl).len_pos k (by rw [HL.out.1];exact hlt)
   have c0:=hc1 k (by rw [HL.out.1];exact hlt)
   have hu:=HU.out k hlt
   have hh:=HH.out k hlt
   rw [HAN.out.1,Bool.false_or] at hu
   clear hc1
   generalize zs.getD k 0=z at *
   have t:=HT.out.below (hbel.mono (by omega):Below w.heap.size w wr)
   have HCL:=isTaken1_any R M P Q a c ps z x y wr t.atl t.pls hn t.hP t.hQ0 t.hQ1 t.hPl t.hQl
   clear t
   have HU2:Hid (anyT ps (x,y) (zs.take (k+1))=(plcO ps z == (x,y))∧((plcO ps z == (x,y))=true→r0=true)):=⟨hu,hh⟩
   clear hu hh
   generalize (plcO ps z == (x,y))=bb at *
   go_wp2_with fail
   refine HCL.mono ?_
   clear HCL
   rintro e w1 ⟨rfl,hb1'⟩
   have HB1:Hid (Below w.heap.size w w1):=hbel.trans (hb1'.mono hbel.size)
   clear hb1' hbel c0 hb1
   cases bb with
   | true=>
    go_wp2
    go_ret
    exact ⟨⟨_,rfl,.inl ⟨HU2.out.2 (by trivial),by omega⟩⟩,HB1.out⟩
   | false=>
    go_wp2
    go_roundw
    case rel=>exact ⟨k+1,by omega,by go_num,HU2.out.1,HB1.out⟩
    case measure=>simp [intOf];omega
  ·have hkn:k=n:=by omega
   subst hkn
   have HF:Hid (r0=false∧True):=⟨by rw [←HE.out.1];exact HAN.out.1,trivial⟩
   go_wp2
   go_ret
   exact ⟨⟨_,rfl,.inr ⟨HF.out.1,rfl⟩⟩,hbel⟩
theorem containsFunc_any (R M P Q:Nat) (a:Option Addr) (c:Nat) (ps:List (Int × Int)) (x y:Int) (za:Option Addr) (zc:Nat) (zs:List Int) (w:World) (hT:TkW w R M P Q a c ps x y) (hz:Ins w za zs) (hn:ps.length≤1048576) (hzn:zs.length≤1048576) :
  Calls Tryz.prog 204 #[.slice za zs.length zc,.func (.func 205) #[] #[.pointer (some ⟨P,0,none⟩),.pointer (some ⟨Q,0,none⟩)]] w fun e w'=>
   e=.returned (.bool (anyT ps (x,y) zs))∧Below w.heap.size w w':=by
 have HI:=indexFunc_any R M P Q a c ps x y za zc zs w hT hz hn hzn
 clear hT hz
 go_enter Tryz.func204,Tryz.ntmps204
 go_wp2_with fail
 refine HI.mono ?_
 clear HI
 rintro e w1 ⟨⟨r,rfl,hr⟩,hb1⟩
 have HB:Hid (Below w.heap.size w w1):=hb1
 clear hb1
 rcases hr with ⟨h1,h2⟩ | ⟨h1,rfl⟩
 ·have H1:Hid (anyT ps (x,y) zs=true∧True):=⟨h1,trivial⟩
  clear h1
  go_wp2
  go_ret
  exact ⟨by rw [H1.out.1];simp [h2],HB.out⟩
 ·have H1:Hid (anyT ps (x,y) zs=false∧True):=⟨h1,trivial⟩
  clear h1
  go_wp2
  go_ret
  exact ⟨by rw [H1.out.1];rfl,HB.out⟩
theorem isTaken_any (R M:Nat) (a:Option Addr) (c:Nat) (ps:List (Int × Int)) (x y:Int) (n k:Nat) (w:World) (hA:Atl w R M a ps.length c) (hb:Pls w a ps) (hL:Liv w M n (liv ps k)) (hx:-9223372036854775808≤x∧x≤9223372036854775807) (hn:ps.length≤1048576) (hn2:n≤1000) :
  Calls Tryz.prog 188 #[.pointer (some ⟨R,0,none⟩),.agg #[.int .i64 x,.int .i64 y]] w fun e w'=>
   e=.returned (.bool (anyT ps (x,y) (liv ps k x)))∧Below w.heap.size w w':=by
 have hw:Below w.heap.size w ((w.alloc (Obj.cells #[.pointer (some ⟨R,0,none⟩)] 174)).alloc (Obj.cells #[.int .i64 x,.int .i64 y] 127)):=
  ((Below.refl _ _).alloc nl _).alloc (by simp) _
 have HT:Hid (TkW ((w.alloc (Obj.cells #[.pointer (some ⟨R,0,none⟩)] 174)).alloc (Obj.cells #[.int .i64 x,.int .i64 y] 127)) R M w.heap.size (w.heap.size+1) a c ps x y):=by
  have h1:(w.alloc (Obj.cells #[.pointer (some ⟨R,0,none⟩)] 174)).heap.size=w.heap.size+1:=by simp
  refine ⟨hA.below hw,hb.below hw nl,keepA _ (by simp) (by simp),?_,?_,by simp;omega,by simp⟩
  ·rw [←h1];simp
  ·rw [←h1];simp
 have HLV:Hid (Liv ((w.alloc (Obj.cells #[.pointer (some ⟨R,0,none⟩)] 174)).alloc (Obj.cells #[.int .i64 x,.int .i64 y] 127)) M n (liv ps k)):=hL.below hw
 clear hA hb hL
 go_enter Tryz.func188,Tryz.ntmps188
 go_wp2_with fail
 generalize (w.alloc (Obj.cells #[.pointer (some ⟨R,0,none⟩)] 174)).alloc (Obj.cells #[.int .i64 x,.int .i64 y] 127)=W at *
 have hbd:Below W.heap.size W W.drew:=⟨rfl,rfl,rfl,Nat.le_refl _,fun _ _=>rfl⟩
 obtain ⟨v,hlk,hov,hlen⟩:=(HLV.out.below hbd).look hn2 x (WalkArith.wf_i64 hx)
 obtain ⟨za,zc,rfl⟩:=hov.form
 have HCF:=containsFunc_any R M w.heap.size (w.heap.size+1) a c ps x y za zc (liv ps k x) W.drew (HT.out.below hbd) hov.ins hn (by omega)
 have hlk2:Sem.run Tryz.prog (Instr.lookup 178 (.map (some M)) (.int .i64 x) false) W.drew=.ok (.slice za (liv ps k x).length zc) W.drew:=hlk
 have HC:Hid (W.cell? ⟨w.heap.size,0,none⟩=some (.pointer (some ⟨R,0,none⟩))∧W.cell? ⟨R,1,none⟩=some (.map (some M))∧W.cell? ⟨w.heap.size+1,0,none⟩=some (.int .i64 x)):=⟨HT.out.hP,HT.out.atl.c1,HT.out.hQ0⟩
 have p0:=HC.out.1
 have p1:=HC.out.2.1
 have p2:=HC.out.2.2
 clear hlk hov
 generalize hrr:anyT ps (x,y) (liv ps k x)=rr at *
 have HRR:Hid (anyT ps (x,y) (liv ps k x)=rr∧True):=⟨hrr,trivial⟩
 clear hrr
 generalize (liv ps k x).length=zn at *
 go_region_with (go_at_call 204;refine HCF.mono ?_;rintro e w8 ⟨rfl,hb8⟩)
 all_goals
  have HB8:Hid (Below w.heap.size w w8):=hw.trans ((Below.drewS hb8).mono hw.size)
  clear hb8
  go_wp2
  go_ret
  exact ⟨by rw [HRR.out.1];rfl,HB8.out⟩
end Go.Proofs.YtaibkchbkedjnaaGreatDoor
namespace Go.Proofs.YtaibkchbkedjnaaGreatDoor
open Go.RowKit Go.Maps
set_option linter.unusedVariables false
set_option linter.unusedSimpArgs false
theorem anyT_liv (ps:List (Int × Int)) (k:Nat) (hk:k≤ps.length) (p:Int × Int) (hp:nwh p=false):anyT ps p (liv ps k p.1)=tkn ps p k:=by
 rw [Bool.eq_iff_iff]
 unfold anyT
 rw [List.any_eq_true,tkn_iff]
 constructor
 ·rintro ⟨z,hz,he⟩
  obtain ⟨i,hi,rfl,h1,h2⟩:=(liv_mem ps k p.1 z).1 hz
  rw [plcO_in ps i (by omega)] at he
  exact ⟨i,hi,by simpa using he⟩
 ·rintro ⟨i,hi,he⟩
  refine ⟨(i:Int),(liv_mem ps k p.1 i).2 ⟨i,hi,rfl,by rw [he];exact hp,by rw [he]⟩,?_⟩
  rw [plcO_in ps i (by omega),he]
  simp
theorem Liv.put {w:World} {M n:Nat} {f:Int→List Int} (h:Liv w M n f) (hn:n≤1000) (s:Int) (hs:(Lit.int .i64 s).wf=true) :
  ∃ v,(Instr.lookup 178 (.map (some M)) (.int .i64 s) false).run Tryz.prog w=.ok v w∧OVI w (M+1) v (f s)∧(f s).length≤n ∧
   ∀ (w1:World) (v':Value) (z:Int),w.grownBy w1 v.ownBlock→OVI w1 (M+1) v' (f s++[z])→(v'.ownBlock=v.ownBlock∨∃ g,v'.ownBlock=some g∧w.heap.size≤g) →
    ∃ w2,(Instr.mapUpdate 178 (.map (some M)) (.int .i64 s) v').run Tryz.prog w1=.ok () w2∧Liv w2 M (n+1) (fun t=>if t=s then f s++[z] else f t)∧w1.grownBy w2 (some M):=by
 obtain ⟨D,h1,h2,h3⟩:=h
 obtain ⟨v,zs,hrun,hat,hoi,hzl,hback⟩:=h1.at Tryz.lawKI Tryz.underlying178 (Tryz.zeroSI _) (by unfold maxLen;omega) (keyOf_int_mk Tryz.underlying3 hs)
 obtain rfl:zs=f s:=(Itm.of hoi hat).eq (h3 s)
 refine ⟨v,hrun,⟨hoi.1,fun z hz=>bounds_i64 (hoi.2 z hz)⟩,hzl,fun w1 v' z hg ho hloc=>?_⟩
 have hoi':w1.ownsInts (M+1) 3 .i64 v' (f s++[z]):=⟨ho.1,fun y hy=>WalkArith.wf_i64 (ho.2 y hy)⟩
 obtain ⟨w2,hr2,hg2,hgr2⟩:=hback w1 v' (f s++[z]) hg hoi' (by simp;omega) hloc
 refine ⟨w2,hr2,⟨_,hg2,h2.put _ _,fun t=>?_⟩,hgr2⟩
 by_cases ht:t=s
 ·subst ht
  show Itm _ (if t=t then _ else _)
  rw [if_pos rfl,atKey_put_same h2 (Tryz.lawKI.key (keyOf_int_mk Tryz.underlying3 hs))]
  exact Itm.of hoi' rfl
 ·show Itm _ (if t=s then _ else _)
  rw [if_neg ht,atKey_put_other (by simpa using ht)]
  exact h3 t
theorem wanted_step8 {P:Program} {ops:Array Oper} {o:Oper} {a:Act} {w:World} {K:Act→World→Prop} {Q:Exit→Act→World→Prop} {E:Prop} (hg:o.guard=none) (h:Oper.wp P o a w K Q) :
  if Region.wanted o (yielded ops a.tmps)=true then Oper.wp P o a w K Q else E:=by
 rw [if_pos (by simp [Region.wanted,hg])]
 exact h
theorem wp_append_i1 {o:Oper} {a:Act} {w:World} {K:Act→World→Prop} {Q:Exit→Act→World→Prop} (s x:Operand) (ho:o.op=.call { callee:=.builtin .append,args:=#[s,x],argTypes:=#[29,29] })
  (B:Nat) (v:Value) (zs:List Int) (hs:a.eval s=v) (hown:OVI w B v zs) (X:Nat) (z:Int) (hx:a.eval x=.slice (some ⟨X,0,none⟩) 1 1) (hX:w.cell? ⟨X,0,none⟩=some (.int .i64 z)) (hz0:-9223372036854775808≤z) (hz1:z≤9223372036854775807) (hb1:zs.length≤1000000) (hbase:B≤w.heap.size)
  (h:∀ v' w',OVI w' B v' (zs++[z])→w.grownBy w' v.ownBlock→(v'.ownBlock=v.ownBlock∨v'.ownBlock=some w.heap.size)→K (a.put o.dst v') w'):o.wp Tryz.prog a w K Q:=by
 obtain ⟨i0,hi,hz0',hz1',hz2⟩:=info_parts Tryz.infoI64
 obtain ⟨v',w',hr,h2,h3,_,h5⟩:=run_append_own_at (P:=Tryz.prog) w B 29 o.type 3 i0 (.int .i64 0) 1 8 Tryz.underlying29 hi hz0' hz1' hz2 rfl (by decide) v zs.length _ hown.1 ⟨X,0,none⟩ 1 1 [.int .i64 z] rfl (by
  intro j u hu
  cases j with
  | zero=>simp at hu;subst hu;simpa [Addr.add] using hX
  | succ j=>simp at hu) (by simp [Value.oneCell']) (by unfold maxLen;omega) (by omega) hbase
 have hr':(Builtin.append_ #[29,29] o.type #[v,.slice (some ⟨X,0,none⟩) 1 1]).run Tryz.prog w=.ok v' w':=hr
 unfold Oper.wp execOp
 simp only [ho,resolve,invoke,builtin,Sem.run_bind,Sem.run_pure,Result.andThen_ok,List.map_toArray,List.map_cons,List.map_nil,hs,hx,hr']
 refine h v' w' ⟨?_,fun y hy=>?_⟩ h3 h5
 ·rw [List.length_append,List.map_append]
  exact h2
 ·rcases List.mem_append.1 hy with hy | hy
  ·exact hown.2 y hy
  ·simp at hy
   omega
theorem blk_cellI {w:World} {R j:Nat} {cur:Array Value} {T:TypeId} {v:Value} (hR:w.heap[R]?=some (.cells cur T (0,0))) (hv:cur[j]?=some v):w.cell? ⟨R,j,none⟩=some v:=by
 rw [cell_of_row w R j cur T (0,0) hR];exact hv
theorem set_below {w0 w1 w2:World} {M:Nat} {v:Value} {zs:List Int} {wv:World} (hg1:w0.grownBy w1 v.ownBlock) (hg2:w1.grownBy w2 (some M)) (hM:M≤w0.heap.size) (ho:OVI wv (M+1) v zs):Below M w0 w2:=
 (((Below.refl M w0).grown hg1 hM (fun j hj=>by have:=ho.blk hj;omega)).grown hg2 (by have:=hg1.size;omega) (fun j hj=>by cases hj;exact Nat.le_refl _))
theorem Liv.mono {w:World} {M n m:Nat} {f:Int→List Int} (h:Liv w M n f) (hm:n≤m):Liv w M m f:=by
 obtain ⟨D,⟨es,clock,h1,h2,h3,h4,h5,h6,h7⟩,h8⟩:=h
 exact ⟨D,⟨es,clock,h1,h2,by omega,h4,h5,fun x hx zs hz=>by have:=h6 x hx zs hz;omega,h7⟩,h8⟩
theorem settle_any (R M:Nat) (a:Option Addr) (c:Nat) (ps:List (Int × Int)) (k n:Nat) (w:World) (hA:Atl w R M a ps.length c) (hb:Pls w a ps) (hL:Liv w M n (liv ps k)) (hMR:M≠R) (hk:k<ps.length) (hn:ps.length≤16) (hn2:n≤1000) :
  Calls Tryz.prog 167 #[.pointer (some ⟨R,0,none⟩),.int .i64 k] w fun e w'=>
   e=.returned (.bool (stpP ps k))∧(stpP ps k=true→Liv w' M (n+1) (liv ps (k+1))∧Atl w' R M a ps.length c)∧Below M w w':=by
 have hMl:=hL.lt
 have a0:=hA.c0
 have hRl:=hA.lt
 have HPO:=placeOf_any a c ps k w hb (by omega)
 rw [plcO_in ps k hk] at HPO
 have HST:Hid (stpP ps k=(nwh (ps.getD k dp) || (rgt (ps.getD k dp) && !tkn ps (ps.getD k dp) k))∧True):=⟨rfl,trivial⟩
 have HTK:Hid (nwh (ps.getD k dp)=false→anyT ps (ps.getD k dp) (liv ps k (ps.getD k dp).1)=tkn ps (ps.getD k dp) k):=fun h=>anyT_liv ps k (by omega) _ h
 have HNW:Hid (nwh (ps.getD k dp)=true→liv ps (k+1)=liv ps k):=liv_nw ps k
 have HLI0:Hid (nwh (ps.getD k dp)=false→∀ s,liv ps (k+1) s=if s=(ps.getD k dp).1 then liv ps k s++[(k:Int)] else liv ps k s):=liv_at ps k
 have HRG:Hid (rP (ps.getD k dp)):=hb.1 _ (getD_memP hk)
 have HLN:Hid (∀ s,(liv ps k s).length≤k):=liv_len ps k
 have HA:Hid (Atl w R M a ps.length c∧Pls w a ps∧Liv w M n (liv ps k)):=⟨hA,hb,hL⟩
 clear hA hb hL
 generalize ps.getD k dp=q at *
 obtain ⟨x,y⟩:=q
 simp only at HPO
 go_enter Tryz.func167,Tryz.ntmps167
 go_wp2_with fail
 refine HPO.mono ?_
 clear HPO
 rintro e w1 ⟨rfl,hb1⟩
 have hb2:Below w.heap.size w (w1.alloc (Obj.cells #[.int .i64 x,.int .i64 y] 127)):=hb1.alloc hb1.size _
 have b0:(w1.alloc (Obj.cells #[.int .i64 x,.int .i64 y] 127)).cell? ⟨w1.heap.size,0,none⟩=some (.int .i64 x):=by simp
 have b1:(w1.alloc (Obj.cells #[.int .i64 x,.int .i64 y] 127)).cell? ⟨w1.heap.size,1,none⟩=some (.int .i64 y):=by simp
 have HBK:Hid ((w1.alloc (Obj.cells #[.int .i64 x,.int .i64 y] 127)).heap[w1.heap.size]?=some (.cells #[.int .i64 x,.int .i64 y] 127 (0,0))∧w1.heap.size<(w1.alloc (Obj.cells #[.int .i64 x,.int .i64 y] 127)).heap.size):=⟨heap_alloc_new w1 _,by simp⟩
 have HB2:Hid (Below w.heap.size w (w1.alloc (Obj.cells #[.int .i64 x,.int .i64 y] 127))):=hb2
 clear hb1 hb2
 go_wp2_with fail
 generalize w1.heap.size=B at *
 generalize w1.alloc (Obj.cells #[.int .i64 x,.int .i64 y] 127)=W at *
 refine (isNowhere_any x y W).mono ?_
 rintro e w3 ⟨rfl,hb3⟩
 have HB3:Hid (Below w.heap.size w w3):=HB2.out.trans (hb3.mono HB2.out.size)
 have c0:=keep hb3 HBK.out.2 b0
 have c1:=keep hb3 HBK.out.2 b1
 have HBK3:Hid (w3.heap[B]?=some (.cells #[.int .i64 x,.int .i64 y] 127 (0,0))∧B<w3.heap.size):=⟨(hb3.block B HBK.out.2).trans HBK.out.1,Nat.lt_of_lt_of_le HBK.out.2 hb3.size⟩
 clear hb3 b0 b1 HB2 HBK a0
 cases hnw:nwh (x,y) with
 | true=>
  have HF:Hid (stpP ps k=true∧liv ps (k+1)=liv ps k):=⟨by rw [HST.out.1,hnw];rfl,HNW.out hnw⟩
  clear HST HTK HNW HLI0 hnw
  go_wp2
  go_ret
  exact ⟨by rw [HF.out.1];rfl,fun _=>⟨by rw [HF.out.2];exact (HA.out.2.2.below HB3.out).mono (by omega),HA.out.1.below HB3.out⟩,HB3.out.mono (by omega)⟩
 | false=>
  have HST1:Hid (stpP ps k=(rgt (x,y) && !tkn ps (x,y) k)∧True):=⟨by rw [HST.out.1,hnw];rfl,trivial⟩
  have HTK1:Hid (anyT ps (x,y) (liv ps k x)=tkn ps (x,y) k∧True):=⟨HTK.out hnw,trivial⟩
  have HLI:Hid (∀ s,liv ps (k+1) s=if s=x then liv ps k s++[(k:Int)] else liv ps k s):=HLI0.out hnw
  clear HST HTK HNW HLI0 hnw
  go_wp2_with fail
  refine (right_any x y w3).mono ?_
  rintro e w4 ⟨rfl,hb4⟩
  have HB4:Hid (Below w.heap.size w w4):=HB3.out.trans (hb4.mono HB3.out.size)
  have d0:=keep hb4 HBK3.out.2 c0
  have d1:=keep hb4 HBK3.out.2 c1
  have HBK4:Hid (w4.heap[B]?=some (.cells #[.int .i64 x,.int .i64 y] 127 (0,0))∧B<w4.heap.size):=⟨(hb4.block B HBK3.out.2).trans HBK3.out.1,Nat.lt_of_lt_of_le HBK3.out.2 hb4.size⟩
  clear hb4 c0 c1 HB3 HBK3
  cases hrg:rgt (x,y) with
  | false=>
   have HF:Hid (stpP ps k=false∧True):=⟨by rw [HST1.out.1,hrg];rfl,trivial⟩
   clear HST1 HTK1 hrg
   go_wp2
   go_ret
   exact ⟨by rw [HF.out.1];rfl,fun h=>(by rw [HF.out.1] at h;cases h),HB4.out.mono (by omega)⟩
  | true=>
   have HST2:Hid (stpP ps k=(!tkn ps (x,y) k)∧True):=⟨by rw [HST1.out.1,hrg];rfl,trivial⟩
   clear HST1 hrg
   have HIT:=isTaken_any R M a c ps x y n k w4 (HA.out.1.below HB4.out) (HA.out.2.1.below HB4.out nl) (HA.out.2.2.below HB4.out) HRG.out.1 (by omega) hn2
   rw [HTK1.out.1] at HIT
   clear HTK1
   go_wp2_with fail
   refine HIT.mono ?_
   clear HIT
   rintro e V ⟨rfl,hb5⟩
   have HB5:Hid (Below w.heap.size w V):=HB4.out.trans (hb5.mono HB4.out.size)
   have b0:=keep hb5 HBK4.out.2 d0
   have HBK5:Hid (V.heap[B]?=some (.cells #[.int .i64 x,.int .i64 y] 127 (0,0))∧B<V.heap.size):=⟨(hb5.block B HBK4.out.2).trans HBK4.out.1,Nat.lt_of_lt_of_le HBK4.out.2 hb5.size⟩
   clear hb5 d0 d1 HB4 HBK4
   cases htk:tkn ps (x,y) k with
   | true=>
    have HF:Hid (stpP ps k=false∧True):=⟨by rw [HST2.out.1,htk];rfl,trivial⟩
    clear HST2 htk
    go_wp2
    go_ret
    exact ⟨by rw [HF.out.1];rfl,fun h=>(by rw [HF.out.1] at h;cases h),HB5.out.mono (by omega)⟩
   | false=>
    have HSTT:Hid (stpP ps k=true∧True):=⟨by rw [HST2.out.1,htk];rfl,trivial⟩
    clear HST2 htk
    have HLV:Hid (Liv V M n (liv ps k)):=HA.out.2.2.below HB5.out
    have hAV:=HA.out.1.below HB5.out
    have a1:=hAV.c1
    have HBL:Hid (M≠R∧V.heap[R]?=some (.cells #[.slice a ps.length c,.map (some M)] 180 (0,0))∧V.heap[B]?=some (.cells #[.int .i64 x,.int .i64 y] 127 (0,0))∧R<V.heap.size∧B<V.heap.size):=⟨hMR,hAV.blk,HBK5.out.1,hAV.lt,HBK5.out.2⟩
    have hVd:Below V.heap.size V V.drew:=⟨rfl,rfl,rfl,Nat.le_refl _,fun _ _=>rfl⟩
    have HBV:Hid (Below M w V.drew):=(HB5.out.mono (by omega)).trans (hVd.mono (by have:=HB5.out.size;omega))
    have hxr:=HRG.out.1
    have hlx:=HLN.out x
    have hVl:=HLV.out.lt
    clear hAV HBK5 hMR HB5
    go_wp2_with fail
    all_goals
     refine wp_region_cut (S:=fun W=>W.cell? ⟨R,1,none⟩=some (.map (some M))∧W.cell? ⟨B,0,none⟩=some (.int .i64 x)) 16 (by kernel_rfl) (by kernel_rfl) (by exact ⟨a1,b0⟩) (fun hHeld=>?_)
     refine tk 0 (v:=?_) ?_ ?_
     rotate_left
     ·(intro w hSw;(try dsimp only at hSw);go_simp;try (with_reducible rfl))
     try simp only [tkS]
     refine tk 1 (v:=?_) ?_ ?_
     rotate_left
     ·(intro w hSw;(try dsimp only at hSw);go_simp;try (with_reducible rfl))
     try simp only [tkS]
     refine tk 2 (v:=?_) ?_ ?_
     rotate_left
     ·(intro w hSw;(try dsimp only at hSw);go_simp;try (with_reducible rfl))
     try simp only [tkS]
     refine tk 3 (v:=?_) ?_ ?_
     rotate_left
     ·(intro w hSw;(try dsimp only at hSw);go_simp;try (with_reducible rfl))
     try simp only [tkS]
     refine tk 4 (v:=?_) ?_ ?_
     rotate_left
     ·(intro w hSw;(try dsimp only at hSw);go_simp;try (with_reducible rfl))
     try simp only [tkS]
     refine tk 5 (v:=?_) ?_ ?_
     rotate_left
     ·(intro w hSw;(try dsimp only at hSw);go_simp;try (with_reducible rfl))
     try simp only [tkS]
     refine tk 6 (v:=?_) ?_ ?_
     rotate_left
     ·(intro w hSw;(try dsimp only at hSw);go_simp;try (with_reducible rfl))
     try simp only [tkS]
     refine tk 7 (v:=?_) ?_ ?_
     rotate_left
     ·(intro w hSw;(try dsimp only at hSw);go_simp;try (with_reducible rfl))
     try simp only [tkS]
     refine tk 8 (v:=?_) ?_ ?_
     rotate_left
     ·(intro w hSw;(try dsimp only at hSw);go_simp;try (with_reducible rfl))
     try simp only [tkS]
     refine tk 9 (v:=?_) ?_ ?_
     rotate_left
     ·(intro w hSw;(try dsimp only at hSw);go_simp;try (with_reducible rfl))
     try simp only [tkS]
     refine tk 10 (v:=?_) ?_ ?_
     rotate_left
     ·(intro w hSw;(try dsimp only at hSw);go_simp;try (with_reducible rfl))
     try simp only [tkS]
     refine tk 11 (v:=?_) ?_ ?_
     rotate_left
     ·(intro w hSw;(try dsimp only at hSw);go_simp;try (with_reducible rfl))
     try simp only [tkS]
     refine tk 13 (v:=?_) ?_ ?_
     rotate_left
     ·(intro w hSw;(try dsimp only at hSw);go_simp;try (with_reducible rfl))
     try simp only [tkS]
     refine wpAnyH_ready (rs:=[12,14]) (by kernel_rfl) (by simp) ?_
     refine AllReadyH.cons rfl (fun K hK=>?_) (AllReadyH.cons rfl (fun K hK=>?_) AllReadyH.nil)
     ·obtain ⟨v,hlk,hov,hlen,hput⟩:=(HLV.out.below hVd).put hn2 x (WalkArith.wf_i64 hxr)
      obtain ⟨va,vc,rfl⟩:=hov.form
      have hlk2:Sem.run Tryz.prog (Instr.lookup 178 (.map (some M)) (.int .i64 x) false) V.drew=.ok (.slice va (liv ps k x).length vc) V.drew:=hlk
      have HPUT:Hid _:=hput
      have HOV:Hid (OVI (V.drew.alloc (Obj.cells #[.int .i64 k] 3)) (M+1) (.slice va (liv ps k x).length vc) (liv ps k x)∧M≠R∧(V.drew.alloc (Obj.cells #[.int .i64 k] 3)).heap[R]?=some (.cells #[.slice a ps.length c,.map (some M)] 180 (0,0))∧(V.drew.alloc (Obj.cells #[.int .i64 k] 3)).heap[B]?=some (.cells #[.int .i64 x,.int .i64 y] 127 (0,0))):=⟨hov.below ((Below.refl _ _).alloc nl _),HBL.out.1,(Below.heap_alloc _ _ _ (by exact HBL.out.2.2.2.1)).trans HBL.out.2.1,(Below.heap_alloc _ _ _ (by exact HBL.out.2.2.2.2)).trans HBL.out.2.2.1⟩
      clear hlk hput hov
      go_simp
      refine hK.out _ _ (by exact ⟨a1,b0⟩) (fun hHeld=>?_)
      clear hK K
      try simp only [tkS]
      refine wpAnyH_ready (rs:=[14]) (by kernel_rfl) (by simp) ?_
      refine AllReadyH.cons rfl (fun K hK=>?_) AllReadyH.nil
      go_simp
      refine hK.out _ _ (by exact ⟨keepA _ (by exact HBL.out.2.2.2.1) a1,keepA _ (by exact HBL.out.2.2.2.2) b0⟩) (fun hHeld=>?_)
      clear hK K hlk2
      try simp only [tkS]
      refine wpAnyH_ready (rs:=[15]) (by kernel_rfl) (by simp) ?_
      refine AllReadyH.cons rfl (fun K hK=>?_) AllReadyH.nil
      refine wanted_step8 rfl (wp_append_i1 (.tmp 34) (.tmp 36) rfl (M+1) (.slice va (liv ps k x).length vc) (liv ps k x) (by simp [Act.eval]) HOV.out.1 V.drew.heap.size (k:Int) (by simp [Act.eval]) (by simp) (by omega) (by omega) (by omega) (by simp;omega) ?_)
      intro v1 w1 hov1 hg1 hat1
      have hg01:V.drew.grownBy w1 (Value.slice va (liv ps k x).length vc).ownBlock:=(World.grownBy_alloc _ _ _).trans hg1
      obtain ⟨w2,hr2,hl2,hg2⟩:=HPUT.out w1 v1 k hg01 hov1 (hat1.imp id (fun h=>⟨_,h,by simp⟩))
      obtain ⟨va1,vc1,hv1⟩:=hov1.form
      have hln:(liv ps k x++[(k:Int)]).length=(liv ps k x).length+1:=by simp
      rw [hln] at hv1
      clear hln
      subst hv1
      have hne:=HOV.out.2
      have A1:=grown_blkI hg1 hne.2.1 (HOV.out.1.blk_ne hne.2.1 (by decide))
      have B1:=grown_blkI hg1 hne.2.2 (HOV.out.1.blk_ne hne.2.2 (by decide))
      have hMR:M≠R:=hne.1
      have HEND:Hid (Liv w2 M (n+1) (liv ps (k+1))∧Atl w2 R M a ps.length c∧Below M w w2):=by
       refine ⟨?_,⟨grown_blkI hg2 A1 (by simpa using fun e:R=M=>hMR e.symm)⟩,HBV.out.trans (set_below hg01 hg2 (Nat.le_of_lt HLV.out.lt) HOV.out.1)⟩
       have he:(fun t=>if t=x then liv ps k x++[(k:Int)] else liv ps k t)=liv ps (k+1):=by
        funext t
        rw [HLI.out t]
        by_cases ht:t=x
        ·rw [if_pos ht,if_pos ht,ht]
        ·rw [if_neg ht,if_neg ht]
       rw [←he]
       exact hl2
      have hr2':Sem.run Tryz.prog (Instr.mapUpdate 178 (.map (some M)) (.int .i64 x) (.slice va1 ((liv ps k x).length+1) vc1)) w1=.ok () w2:=hr2
      refine hK.out _ _ (by exact ⟨blk_cellI A1 rfl,blk_cellI B1 rfl⟩) (fun hHeld=>?_)
      clear hK K
      try simp only [tkS]
      refine wpAnyH_done (by kernel_rfl) ?_ _
      simp only [cutQ,List.drop_succ_cons,List.drop_zero]
      clear hHeld hl2 hg2 hg1 hov1 hat1 hg01 hr2
      go_wp2
      go_ret
      exact ⟨by rw [HSTT.out.1];rfl,fun _=>⟨HEND.out.1,HEND.out.2.1⟩,HEND.out.2.2⟩
     ·have hVa:Below V.heap.size V (V.drew.alloc (Obj.cells #[.int .i64 k] 3)):=hVd.alloc nl _
      obtain ⟨v,hlk,hov,hlen,hput⟩:=(HLV.out.below hVa).put hn2 x (WalkArith.wf_i64 hxr)
      obtain ⟨va,vc,rfl⟩:=hov.form
      have hlk2:Sem.run Tryz.prog (Instr.lookup 178 (.map (some M)) (.int .i64 x) false) (V.alloc (Obj.cells #[.int .i64 k] 3)).drew=.ok (.slice va (liv ps k x).length vc) (V.alloc (Obj.cells #[.int .i64 k] 3)).drew:=hlk
      have HPUT:Hid _:=hput
      have HOV:Hid (OVI (V.drew.alloc (Obj.cells #[.int .i64 k] 3)) (M+1) (.slice va (liv ps k x).length vc) (liv ps k x)∧M≠R∧(V.drew.alloc (Obj.cells #[.int .i64 k] 3)).heap[R]?=some (.cells #[.slice a ps.length c,.map (some M)] 180 (0,0))∧(V.drew.alloc (Obj.cells #[.int .i64 k] 3)).heap[B]?=some (.cells #[.int .i64 x,.int .i64 y] 127 (0,0))):=⟨hov,HBL.out.1,(Below.heap_alloc _ _ _ (by exact HBL.out.2.2.2.1)).trans HBL.out.2.1,(Below.heap_alloc _ _ _ (by exact HBL.out.2.2.2.2)).trans HBL.out.2.2.1⟩
      clear hlk hput hov
      go_simp
      refine hK.out _ _ (by exact ⟨keepA _ (by exact HBL.out.2.2.2.1) a1,keepA _ (by exact HBL.out.2.2.2.2) b0⟩) (fun hHeld=>?_)
      clear hK K
      try simp only [tkS]
      refine wpAnyH_ready (rs:=[12]) (by kernel_rfl) (by simp) ?_
      refine AllReadyH.cons rfl (fun K hK=>?_) AllReadyH.nil
      go_simp
      refine hK.out _ _ (by exact hHeld) (fun hHeld=>?_)
      clear hK K hlk2
      try simp only [tkS]
      refine wpAnyH_ready (rs:=[15]) (by kernel_rfl) (by simp) ?_
      refine AllReadyH.cons rfl (fun K hK=>?_) AllReadyH.nil
      refine wanted_step8 rfl (wp_append_i1 (.tmp 34) (.tmp 36) rfl (M+1) (.slice va (liv ps k x).length vc) (liv ps k x) (by simp [Act.eval]) HOV.out.1 V.drew.heap.size (k:Int) (by simp [Act.eval]) (by simp) (by omega) (by omega) (by omega) (by simp;omega) ?_)
      intro v1 w1 hov1 hg1 hat1
      have hg01:(V.drew.alloc (Obj.cells #[.int .i64 k] 3)).grownBy w1 (Value.slice va (liv ps k x).length vc).ownBlock:=hg1
      obtain ⟨w2,hr2,hl2,hg2⟩:=HPUT.out w1 v1 k hg01 hov1 (hat1.imp id (fun h=>⟨_,h,by simp⟩))
      obtain ⟨va1,vc1,hv1⟩:=hov1.form
      have hln:(liv ps k x++[(k:Int)]).length=(liv ps k x).length+1:=by simp
      rw [hln] at hv1
      clear hln
      subst hv1
      have hne:=HOV.out.2
      have A1:=grown_blkI hg1 hne.2.1 (HOV.out.1.blk_ne hne.2.1 (by decide))
      have B1:=grown_blkI hg1 hne.2.2 (HOV.out.1.blk_ne hne.2.2 (by decide))
      have hMR:M≠R:=hne.1
      have HEND:Hid (Liv w2 M (n+1) (liv ps (k+1))∧Atl w2 R M a ps.length c∧Below M w w2):=by
       refine ⟨?_,⟨grown_blkI hg2 A1 (by simpa using fun e:R=M=>hMR e.symm)⟩,HBV.out.trans (set_below ((World.grownBy_alloc V.drew _ _).trans hg01) hg2 (Nat.le_of_lt HLV.out.lt) HOV.out.1)⟩
       have he:(fun t=>if t=x then liv ps k x++[(k:Int)] else liv ps k t)=liv ps (k+1):=by
        funext t
        rw [HLI.out t]
        by_cases ht:t=x
        ·rw [if_pos ht,if_pos ht,ht]
        ·rw [if_neg ht,if_neg ht]
       rw [←he]
       exact hl2
      have hr2':Sem.run Tryz.prog (Instr.mapUpdate 178 (.map (some M)) (.int .i64 x) (.slice va1 ((liv ps k x).length+1) vc1)) w1=.ok () w2:=hr2
      refine hK.out _ _ (by exact ⟨blk_cellI A1 rfl,blk_cellI B1 rfl⟩) (fun hHeld=>?_)
      clear hK K
      try simp only [tkS]
      refine wpAnyH_done (by kernel_rfl) ?_ _
      simp only [cutQ,List.drop_succ_cons,List.drop_zero]
      clear hHeld hl2 hg2 hg1 hov1 hat1 hg01 hr2
      go_wp2
      go_ret
      exact ⟨by rw [HSTT.out.1];rfl,fun _=>⟨HEND.out.1,HEND.out.2.1⟩,HEND.out.2.2⟩
theorem atlasOf_any (a:Option Addr) (c:Nat) (ps:List (Int × Int)) (w:World) (hb:Pls w a ps) (hn:ps.length≤1048576) :
  Calls Tryz.prog 136 #[.agg #[.slice a ps.length c]] w fun e w'=>
   ((mapB ps=true∧∃ R M,e=.returned (.tuple #[.pointer (some ⟨R,0,none⟩),.bool true])∧Atl w' R M a ps.length c∧Liv w' M ps.length (liv ps ps.length)∧w.heap.size≤M)∨(mapB ps=false∧e=.returned (.tuple #[.pointer none,.bool false])))∧Below w.heap.size w w':=by
 have hw:Below w.heap.size w (w.alloc (Obj.cells #[.slice a ps.length c] 44)):=bAw
 by_cases hl:1≤ps.length∧ps.length≤16
 ·have HY:Hid (okT ps ps.length=true→mapB ps=true):=mapB_yes ps hl
  have HN:Hid (∀ k,stpP ps k=false→k<ps.length→mapB ps=false):=mapB_no ps
  have HSTL:Hid (∀ (k m:Nat) (R M:Nat) (w:World),Atl w R M a ps.length c→Pls w a ps→Liv w M m (liv ps k)→M≠R→k<ps.length→m≤1000→Calls Tryz.prog 167 #[.pointer (some ⟨R,0,none⟩),.int .i64 k] w fun e w'=>
   e=.returned (.bool (stpP ps k))∧(stpP ps k=true→Liv w' M (m+1) (liv ps (k+1))∧Atl w' R M a ps.length c)∧Below M w w'):=fun k m R M w h1 h2 h3 h4 h5 h6=>settle_any R M a c ps k m w h1 h2 h3 h4 h5 hl.2 h6
  have HB:Hid (Pls w a ps):=hb
  have HZ:Hid (liv ps 0=(fun _=>[])∧okT ps 0=true∧∀ k,okT ps k=true→stpP ps k=true→okT ps (k+1)=true):=⟨by funext s;rfl,rfl,fun k h1 h2=>by simp only [okT,h1,h2];rfl⟩
  clear hb
  generalize mapB ps=RR at *
  generalize hlen:ps.length=n at *
  clear hlen hn
  obtain ⟨hl1,hl2⟩:=hl
  have hmm:=@run_makeMap Tryz.prog
  go_enter Tryz.func136,Tryz.ntmps136
  go_wp2
  have e1:(w.alloc (Obj.cells #[.slice a n c] 44)).heap.size=w.heap.size+1:=by simp
  have e2:((w.alloc (Obj.cells #[.slice a n c] 44)).alloc (.map #[] 0)).heap.size=w.heap.size+1+1:=by simp
  have HW:Hid (Below w.heap.size w (((w.alloc (Obj.cells #[.slice a n c] 44)).alloc (.map #[] 0)).alloc (Obj.cells #[.slice a n c,.map (some (w.heap.size+1))] 180))):=
   (((Below.refl _ _).alloc nl _).alloc (by simp) _).alloc (by simp;omega) _
  have HL0:Hid (Liv (((w.alloc (Obj.cells #[.slice a n c] 44)).alloc (.map #[] 0)).alloc (Obj.cells #[.slice a n c,.map (some (w.heap.size+1))] 180)) (w.heap.size+1) 0 (liv ps 0)):=by
   have h1:=(Liv.made (w.alloc (Obj.cells #[.slice a n c] 44))).below ((Below.refl _ _).alloc nl (Obj.cells #[.slice a n c,.map (some (w.heap.size+1))] 180))
   rw [e1] at h1
   rw [HZ.out.1]
   exact h1
  have HA0:Hid (Atl (((w.alloc (Obj.cells #[.slice a n c] 44)).alloc (.map #[] 0)).alloc (Obj.cells #[.slice a n c,.map (some (w.heap.size+1))] 180)) (w.heap.size+1+1) (w.heap.size+1) a n c):=⟨by
   rw [←e2];exact heap_alloc_new _ _⟩
  clear e1 e2 hmm
  generalize ((w.alloc (Obj.cells #[.slice a n c] 44)).alloc (.map #[] 0)).alloc (Obj.cells #[.slice a n c,.map (some (w.heap.size+1))] 180)=W at *
  go_loopw [24] (fun i wr=>∃ k:Nat,k≤n∧i=.int .i64 k∧okT ps k=true∧Atl wr (w.heap.size+1+1) (w.heap.size+1) a n c∧Liv wr (w.heap.size+1) k (liv ps k)∧Below w.heap.size w wr) (fun i _=>n-(intOf i).toNat)
  case atStart=>exact ⟨0,Nat.zero_le _,rfl,HZ.out.2.1,HA0.out,HL0.out,HW.out⟩
  case round=>
   obtain ⟨k,hk,rfl,hok,hA,hL,hbel⟩:=hrel
   have HR:Hid (okT ps k=true∧Atl wr (w.heap.size+1+1) (w.heap.size+1) a n c∧Liv wr (w.heap.size+1) k (liv ps k)∧Below w.heap.size w wr):=⟨hok,hA,hL,hbel⟩
   clear hok hA hL hbel
   by_cases hlt:k<n
   ·have HS:=HSTL.out k k (w.heap.size+1+1) (w.heap.size+1) wr HR.out.2.1 (HB.out.below HR.out.2.2.2 nl) HR.out.2.2.1 (by omega) hlt (by omega)
    go_wp2_with fail
    refine HS.mono ?_
    clear HS
    rintro e w1 ⟨rfl,hT,hb1⟩
    have HB1:Hid (Below w.heap.size w w1):=HR.out.2.2.2.trans (hb1.mono (by omega))
    clear hb1
    cases hst:stpP ps k with
    | true=>
     have HT:Hid (okT ps (k+1)=true∧Liv w1 (w.heap.size+1) (k+1) (liv ps (k+1))∧Atl w1 (w.heap.size+1+1) (w.heap.size+1) a n c):=⟨HZ.out.2.2 k HR.out.1 hst,hT hst⟩
     clear hT hst
     go_wp2
     go_roundw
     case rel=>exact ⟨k+1,by omega,by go_num,HT.out.1,HT.out.2.2,HT.out.2.1,HB1.out⟩
     case measure=>simp [intOf];omega
    | false=>
     have HF:Hid (RR=false∧True):=⟨HN.out k hst hlt,trivial⟩
     clear hT hst
     go_wp2
     exact bodyPost_ret (v:=.tuple #[.pointer none,.bool false]) (by simp [results,Tryz.results136,go_sem]) rfl ⟨.inr ⟨HF.out.1,rfl⟩,HB1.out⟩
   ·have hkn:k=n:=by omega
    subst hkn
    have HF:Hid (RR=true∧True):=⟨HY.out HR.out.1,trivial⟩
    go_wp2
    exact bodyPost_ret (v:=.tuple #[.pointer (some ⟨w.heap.size+1+1,0,none⟩),.bool true]) (by simp [results,Tryz.results136,go_sem]) rfl ⟨.inl ⟨HF.out.1,_,_,rfl,HR.out.2.1,HR.out.2.2.1,by omega⟩,HR.out.2.2.2⟩
 ·have HS:Hid (mapB ps=false∧True):=⟨mapB_short ps hl,trivial⟩
  have key:(ps.length:Int)<1∨(1≤(ps.length:Int)∧16<(ps.length:Int)):=by omega
  clear hl hb
  rcases key with h | ⟨h,h2⟩
  all_goals
   go_enter Tryz.func136,Tryz.ntmps136
   go_wp2
   exact bodyPost_ret (v:=.tuple #[.pointer none,.bool false]) (by simp [results,Tryz.results136,go_sem]) rfl ⟨.inr ⟨HS.out.1,rfl⟩,hw⟩
theorem implMapOk_any (a:Option Addr) (cap:Nat) (ps:List (Int × Int)) (w:World) (hb:Pls w a ps) (hn:ps.length≤1048576) :
  Calls Tryz.prog 127 #[.agg #[.slice a ps.length cap]] w fun e w'=>e=.returned (.bool (mapB ps))∧Below w.heap.size w w':=by
 have hw:Below w.heap.size w (w.alloc (Obj.cells #[.slice a ps.length cap] 44)):=bAw
 go_enter Tryz.func127,Tryz.ntmps127
 go_wp2_with fail
 refine (atlasOf_any a cap ps _ (hb.below hw nl) hn).mono ?_
 rintro e w1 ⟨hr,hb1⟩
 have HB1:Hid (Below w.heap.size w w1):=hw.trans (hb1.mono hw.size)
 clear hb1 hb
 rcases hr with ⟨hm,R,M,rfl,-,-⟩ | ⟨hm,rfl⟩
 all_goals
  have HM:Hid (_∧True):=⟨hm,trivial⟩
  clear hm
  go_wp2
  go_ret
  exact ⟨by rw [HM.out.1];rfl,HB1.out⟩
end Go.Proofs.YtaibkchbkedjnaaGreatDoor
namespace Go.Proofs.YtaibkchbkedjnaaGreatDoor
open Go.RowKit
set_option linter.unusedVariables false
set_option linter.unusedSimpArgs false
def ThC (W:World) (X:Nat) (cs:List Int) (k:Nat):Prop:=X<W.heap.size∧∀ i:Nat,i<24→W.frozen? ⟨X,i,none⟩=false∧∃ t,W.cell? ⟨X,i,none⟩=some (.bool t)∧(t=true↔∃ j,j<k∧cs.getD j 0=(i:Nat))
theorem ThC.below {W W':World} {X:Nat} {cs:List Int} {k:Nat} (h:ThC W X cs k) (hb:Below W.heap.size W W'):ThC W' X cs k:=
 ⟨Nat.lt_of_lt_of_le h.1 hb.size,fun i hi=>⟨(hb.frozen (p:=⟨X,i,none⟩) h.1).trans (h.2 i hi).1,by
  obtain ⟨t,h1,h2⟩:=(h.2 i hi).2
  exact ⟨t,keep hb h.1 h1,h2⟩⟩⟩
theorem ThC.put {W:World} {X q:Nat} {cs:List Int} {k:Nat} (h:ThC W X cs k) (hq:cs.getD k 0=(q:Nat)) (hq24:q<24):ThC (W.setCell ⟨X,q,none⟩ (.bool true)) X cs (k+1):=by
 refine ⟨by simpa using h.1,fun i hi=>⟨by have:=(h.2 i hi).1;simpa using this,?_⟩⟩
 obtain ⟨t,h1,h2⟩:=(h.2 i hi).2
 by_cases e:i=q
 ·subst e
  exact ⟨true,World.cell?_setCell_same W _ _ h1,by simp only [true_iff];exact ⟨k,by omega,hq⟩⟩
 ·refine ⟨t,(World.cell?_setCell_other W _ _ _ (by simp <;> omega)).trans h1,h2.trans ⟨?_,?_⟩⟩
  ·rintro ⟨j,h3,h4⟩
   exact ⟨j,by omega,h4⟩
  ·rintro ⟨j,h3,h4⟩
   by_cases e2:j=k
   ·subst e2
    rw [hq] at h4
    exact absurd (by omega) e
   ·exact ⟨j,by omega,h4⟩
theorem ThC.new (W:World) (T:TypeId) (cs:List Int):ThC (W.alloc (Obj.cells #[.bool false,.bool false,.bool false,.bool false,.bool false,.bool false,.bool false,.bool false,.bool false,.bool false,.bool false,.bool false,.bool false,.bool false,.bool false,.bool false,.bool false,.bool false,.bool false,.bool false,.bool false,.bool false,.bool false,.bool false] T)) W.heap.size cs 0:=by
 refine ⟨by simp,fun i hi=>⟨by simp,false,?_,by simp⟩⟩
 have h:i=0∨i=1∨i=2∨i=3∨i=4∨i=5∨i=6∨i=7∨i=8∨i=9∨i=10∨i=11∨i=12∨i=13∨i=14∨i=15∨i=16∨i=17∨i=18∨i=19∨i=20∨i=21∨i=22∨i=23:=by omega
 rcases h with rfl | rfl | rfl | rfl | rfl | rfl | rfl | rfl | rfl | rfl | rfl | rfl | rfl | rfl | rfl | rfl | rfl | rfl | rfl | rfl | rfl | rfl | rfl | rfl <;> simp
theorem chainFits_any (d:DkV) (w:World) (hb:DkI w d) (hn:d.ss.length≤24) (hm:d.cs.length≤1048576) :
  Calls Tryz.prog 90 #[.agg #[.slice d.sa d.ss.length d.sc,.slice d.pa d.ps.length d.pc,.int .i64 d.E,.int .i64 d.O,.slice d.ma d.ms.length d.mc,.slice d.va d.vs.length d.vc,.slice d.ca d.cs.length d.cc,.int .i64 d.F,.int .i64 d.G,.slice d.oa d.os.length d.oc]] w fun r w'=>((chK d.cs d.ss.length d.cs.length∧r=.returned (.bool true))∨(¬chK d.cs d.ss.length d.cs.length∧r=.returned (.bool false)))∧Below w.heap.size w w':=by
 have HB:Hid (DkI w d):=hb
 clear hb
 have hw:Below w.heap.size w (w.alloc (Obj.cells #[.slice d.sa d.ss.length d.sc,.slice d.pa d.ps.length d.pc,.int .i64 d.E,.int .i64 d.O,.slice d.ma d.ms.length d.mc,.slice d.va d.vs.length d.vc,.slice d.ca d.cs.length d.cc,.int .i64 d.F,.int .i64 d.G,.slice d.oa d.os.length d.oc] 49)):=bAw
 have hx:=(Dk10.new w d 49).alloc (Obj.cells #[.bool false,.bool false,.bool false,.bool false,.bool false,.bool false,.bool false,.bool false,.bool false,.bool false,.bool false,.bool false,.bool false,.bool false,.bool false,.bool false,.bool false,.bool false,.bool false,.bool false,.bool false,.bool false,.bool false,.bool false] 146)
 have hT0:=ThC.new (w.alloc (Obj.cells #[.slice d.sa d.ss.length d.sc,.slice d.pa d.ps.length d.pc,.int .i64 d.E,.int .i64 d.O,.slice d.ma d.ms.length d.mc,.slice d.va d.vs.length d.vc,.slice d.ca d.cs.length d.cc,.int .i64 d.F,.int .i64 d.G,.slice d.oa d.os.length d.oc] 49)) 146 d.cs
 have HW:Hid (Below w.heap.size w ((w.alloc (Obj.cells #[.slice d.sa d.ss.length d.sc,.slice d.pa d.ps.length d.pc,.int .i64 d.E,.int .i64 d.O,.slice d.ma d.ms.length d.mc,.slice d.va d.vs.length d.vc,.slice d.ca d.cs.length d.cc,.int .i64 d.F,.int .i64 d.G,.slice d.oa d.os.length d.oc] 49)).alloc (Obj.cells #[.bool false,.bool false,.bool false,.bool false,.bool false,.bool false,.bool false,.bool false,.bool false,.bool false,.bool false,.bool false,.bool false,.bool false,.bool false,.bool false,.bool false,.bool false,.bool false,.bool false,.bool false,.bool false,.bool false,.bool false] 146))):=hw.alloc (by simp) _
 simp only [World.size_alloc] at hT0
 have HT0:Hid _:=(⟨hT0,hx⟩:_∧_)
 obtain ⟨x0,x1,x2,x3,x4,x5,x6,x7,x8,x9,xl⟩:=hx
 clear hT0 hw
 go_enter Tryz.func90,Tryz.ntmps90
 go_wp2
 generalize (w.alloc (Obj.cells #[.slice d.sa d.ss.length d.sc,.slice d.pa d.ps.length d.pc,.int .i64 d.E,.int .i64 d.O,.slice d.ma d.ms.length d.mc,.slice d.va d.vs.length d.vc,.slice d.ca d.cs.length d.cc,.int .i64 d.F,.int .i64 d.G,.slice d.oa d.os.length d.oc] 49)).alloc (Obj.cells #[.bool false,.bool false,.bool false,.bool false,.bool false,.bool false,.bool false,.bool false,.bool false,.bool false,.bool false,.bool false,.bool false,.bool false,.bool false,.bool false,.bool false,.bool false,.bool false,.bool false,.bool false,.bool false,.bool false,.bool false] 146)=W0 at *
 go_loopw [9] (fun i wr=>∃ k:Nat,k≤d.cs.length∧i=.int .i64 k∧chK d.cs d.ss.length k∧ThC wr (w.heap.size+1) d.cs k∧Dk10 wr w.heap.size d∧Below w.heap.size w wr) (fun i _=>d.cs.length-(intOf i).toNat)
 case atStart=>exact ⟨0,Nat.zero_le _,rfl,chK_zero _ _,HT0.out.1,HT0.out.2,HW.out⟩
 case round=>
  clear HT0 HW x0 x1 x2 x3 x4 x5 x6 x7 x8 x9 xl
  obtain ⟨k,hk,rfl,hch,hth,hx,hbel⟩:=hrel
  have HAP:Hid (chK d.cs d.ss.length k∧ThC wr (w.heap.size+1) d.cs k∧Dk10 wr w.heap.size d∧Below w.heap.size w wr):=⟨hch,hth,hx,hbel⟩
  obtain ⟨x0,x1,x2,x3,x4,x5,x6,x7,x8,x9,xl⟩:=hx
  clear hch hth
  by_cases hlt:k<d.cs.length
  ·obtain ⟨b,off,hca,hbl,hc⟩:=(HB.out.chn.below hbel nl).2 (by omega)
   have c0:=hc k hlt
   have HY:Hid (∀ y,d.cs.getD k 0=y→(¬(2≤y∧y<(d.ss.length:Int))→¬chK d.cs d.ss.length d.cs.length)∧((∃ i,i<k∧d.cs.getD i 0=y)→¬chK d.cs d.ss.length d.cs.length)∧(2≤y∧y<d.ss.length→(¬∃ i,i<k∧d.cs.getD i 0=y)→chK d.cs d.ss.length (k+1))):=fun y hy=>by
    refine ⟨fun h hG=>by have:=(hG k hlt).1;rw [hy] at this;exact h this,fun h hG=>?_,fun h1 h2=>chK_succ HAP.out.1 (by rw [hy];exact h1) (fun j hj e=>h2 ⟨j,hj,e.trans hy⟩)⟩
    obtain ⟨i,hi,e⟩:=h
    exact (hG k hlt).2 i hi (e.trans hy.symm)
   have hyk:∃ y,d.cs.getD k 0=y:=⟨_,rfl⟩
   obtain ⟨y,hy⟩:=hyk
   obtain ⟨hy1,hy2,hy3⟩:=HY.out y hy
   have HYE:Hid (d.cs.getD k 0=y∧True):=⟨hy,trivial⟩
   rw [hy] at c0
   rw [hca] at x6 ⊢
   clear hc HY hy
   by_cases hy2':y<2
   ·have HF:Hid (¬chK d.cs d.ss.length d.cs.length):=hy1 (by omega)
    clear hy1 hy2 hy3
    go_wp2
    go_ret
    exact ⟨.inr ⟨HF.out,rfl⟩,HAP.out.2.2.2⟩
   have HH:=has_any d.sa d.pa d.sc d.pc d.ss.length d.ps.length y wr (by omega)
   have hdb:decide (0≤y∧y<(d.ss.length:Int))=decide (y<(d.ss.length:Int)):=by
    by_cases h:y<(d.ss.length:Int)
    ·rw [decide_eq_true h,decide_eq_true ⟨by omega,h⟩]
    ·rw [decide_eq_false h,decide_eq_false (fun h2=>h h2.2)]
   rw [hdb] at HH
   clear hdb
   by_cases hyr:y<(d.ss.length:Int)
   rotate_left
   ·have HF:Hid (¬chK d.cs d.ss.length d.cs.length):=hy1 (fun h=>hyr h.2)
    rw [decide_eq_false hyr] at HH
    clear hy1 hy2 hy3
    go_wp2_with fail
    refine HH.mono ?_
    clear HH
    rintro e w1 ⟨rfl,hb1⟩
    have HB1:Hid (Below w.heap.size w w1):=HAP.out.2.2.2.trans (hb1.mono HAP.out.2.2.2.size)
    clear hb1
    go_wp2
    go_ret
    exact ⟨.inr ⟨HF.out,rfl⟩,HB1.out⟩
   rw [decide_eq_true hyr] at HH
   obtain ⟨q,rfl⟩:=Int.eq_ofNat_of_zero_le (show 0≤y by omega)
   have hq24:q<24:=by omega
   go_wp2_with fail
   refine HH.mono ?_
   clear HH
   rintro e w1 ⟨rfl,hb1⟩
   have hth1:=HAP.out.2.1.below hb1
   have HW1:Hid (ThC w1 (w.heap.size+1) d.cs k∧Dk10 w1 w.heap.size d∧Below w.heap.size w w1):=⟨hth1,HAP.out.2.2.1.step hb1,HAP.out.2.2.2.trans (hb1.mono HAP.out.2.2.2.size)⟩
   obtain ⟨hfz,t,hct,hti⟩:=hth1.2 q hq24
   have HTI:Hid (t=true↔∃ j,j<k∧d.cs.getD j 0=(q:Nat)):=hti
   clear hb1 hth1 hti x0 x1 x2 x3 x4 x5 x6 x7 x8 x9 xl c0
   cases t with
   | true=>
    have HF:Hid (¬chK d.cs d.ss.length d.cs.length):=hy2 (HTI.out.1 rfl)
    clear hy1 hy2 hy3
    go_wp2
    go_ret
    exact ⟨.inr ⟨HF.out,rfl⟩,HW1.out.2.2⟩
   | false=>
    have HF:Hid (chK d.cs d.ss.length (k+1)):=hy3 ⟨by omega,by omega⟩ (fun h=>by have:=HTI.out.2 h;cases this)
    have hon:Only (fun x=>x=w.heap.size+1) w1 (w1.setCell ⟨w.heap.size+1,q,none⟩ (.bool true)):=(Only.refl (fun x=>x=w.heap.size+1) w1).setCell (p:=⟨w.heap.size+1,q,none⟩) (.inl rfl) _
    have HN:Hid (ThC (w1.setCell ⟨w.heap.size+1,q,none⟩ (.bool true)) (w.heap.size+1) d.cs (k+1)∧Dk10 (w1.setCell ⟨w.heap.size+1,q,none⟩ (.bool true)) w.heap.size d∧Below w.heap.size w (w1.setCell ⟨w.heap.size+1,q,none⟩ (.bool true))):=
     ⟨HW1.out.1.put HYE.out.1 hq24,HW1.out.2.1.keep (hon.below (B:=w.heap.size+1) (by have:=HW1.out.1.1;omega) (fun k hk=>by omega)) (by omega),HW1.out.2.2.setCell (by simp) _⟩
    clear hy1 hy2 hy3 hon
    go_wp2
    go_roundw
    case rel=>exact ⟨k+1,by omega,by go_num,HF.out,HN.out.1,HN.out.2.1,HN.out.2.2⟩
    case measure=>simp [intOf];omega
  ·have hkn:k=d.cs.length:=by omega
   subst hkn
   go_wp2
   go_ret
   exact ⟨.inl ⟨HAP.out.1,rfl⟩,HAP.out.2.2.2⟩
theorem mapB_lo {ps:List (Int × Int)} (h:mapB ps=true) (i:Nat) (hi:i<ps.length):0≤(ps.getD i dp).1:=by
 unfold mapB at h
 simp only [Bool.and_eq_true] at h
 have h1:=okT_le ps ps.length (i+1) h.2 hi
 simp only [okT,Bool.and_eq_true] at h1
 have h2:=h1.2
 unfold stpP nwh rgt at h2
 simp only [Bool.or_eq_true,Bool.and_eq_true,beq_iff_eq,decide_eq_true_eq] at h2
 omega
theorem mapsFit_any (d:DkV) (w:World) (hb:DkI w d) (hd:DkF d) :
  Calls Tryz.prog 89 #[.agg #[.slice d.sa d.ss.length d.sc,.slice d.pa d.ps.length d.pc,.int .i64 d.E,.int .i64 d.O,.slice d.ma d.ms.length d.mc,.slice d.va d.vs.length d.vc,.slice d.ca d.cs.length d.cc,.int .i64 d.F,.int .i64 d.G,.slice d.oa d.os.length d.oc]] w fun r w'=>(((mapB d.ms=true∧mapB d.vs=true∧d.ms.length=d.vs.length∧gmB d.ms.length d.ss.length=true∧¬badP d.ms d.ss.length d.ms.length∧¬badP d.vs d.ss.length d.vs.length)∧r=.returned (.bool true))∨(¬(mapB d.ms=true∧mapB d.vs=true∧d.ms.length=d.vs.length∧gmB d.ms.length d.ss.length=true∧¬badP d.ms d.ss.length d.ms.length∧¬badP d.vs d.ss.length d.vs.length)∧r=.returned (.bool false)))∧Below w.heap.size w w':=by
 have HW0:Hid (Below w.heap.size w (w.alloc (Obj.cells #[.slice d.sa d.ss.length d.sc,.slice d.pa d.ps.length d.pc,.int .i64 d.E,.int .i64 d.O,.slice d.ma d.ms.length d.mc,.slice d.va d.vs.length d.vc,.slice d.ca d.cs.length d.cc,.int .i64 d.F,.int .i64 d.G,.slice d.oa d.os.length d.oc] 49))):=bAw
 have hx0:=Dk10.new w d 49
 generalize hRP:(fun (r:Ending) (w':World)=>(((mapB d.ms=true∧mapB d.vs=true∧d.ms.length=d.vs.length∧gmB d.ms.length d.ss.length=true∧¬badP d.ms d.ss.length d.ms.length∧¬badP d.vs d.ss.length d.vs.length)∧r=.returned (.bool true))∨(¬(mapB d.ms=true∧mapB d.vs=true∧d.ms.length=d.vs.length∧gmB d.ms.length d.ss.length=true∧¬badP d.ms d.ss.length d.ms.length∧¬badP d.vs d.ss.length d.vs.length)∧r=.returned (.bool false)))∧Below w.heap.size w w')=RP
 have HNO:Hid (∀ W,¬(mapB d.ms=true∧mapB d.vs=true∧d.ms.length=d.vs.length∧gmB d.ms.length d.ss.length=true∧¬badP d.ms d.ss.length d.ms.length∧¬badP d.vs d.ss.length d.vs.length)→Below w.heap.size w W→RP (.returned (.bool false)) W):=fun W h hW=>by rw [←hRP];exact ⟨.inr ⟨h,rfl⟩,hW⟩
 have HYES:Hid (∀ W,(mapB d.ms=true∧mapB d.vs=true∧d.ms.length=d.vs.length∧gmB d.ms.length d.ss.length=true∧¬badP d.ms d.ss.length d.ms.length∧¬badP d.vs d.ss.length d.vs.length)→Below w.heap.size w W→RP (.returned (.bool true)) W):=fun W h hW=>by rw [←hRP];exact ⟨.inl ⟨h,rfl⟩,hW⟩
 clear hRP
 have HB:Hid (DkI w d):=hb
 have hm1:=hd.ms
 have hm2:=hd.vs
 have hm3:=hd.raw.n
 have H1:=implMapOk_any d.ma d.mc d.ms _ (hb.map.below HW0.out nl) hd.ms
 clear hb hd
 go_enter Tryz.func89,Tryz.ntmps89
 go_wp2_with fail
 generalize (w.alloc (Obj.cells #[.slice d.sa d.ss.length d.sc,.slice d.pa d.ps.length d.pc,.int .i64 d.E,.int .i64 d.O,.slice d.ma d.ms.length d.mc,.slice d.va d.vs.length d.vc,.slice d.ca d.cs.length d.cc,.int .i64 d.F,.int .i64 d.G,.slice d.oa d.os.length d.oc] 49))=w0 at *
 refine H1.mono ?_
 clear H1
 rintro e w1 ⟨rfl,hb1⟩
 have hx1:=hx0.step hb1
 have HW1:Hid (Below w.heap.size w w1):=HW0.out.trans (hb1.mono HW0.out.size)
 clear hb1 hx0 HW0
 by_cases g1:mapB d.ms=true
 rotate_left
 ·have g':mapB d.ms=false:=by simpa using g1
  rw [g']
  have HF:Hid (RP (.returned (.bool false)) w1):=HNO.out _ (fun h=>g1 h.1) HW1.out
  clear HB HNO HYES
  go_wp2
  exact HF.out
 rw [g1]
 obtain ⟨x0,x1,x2,x3,x4,x5,x6,x7,x8,x9,xl⟩:=id hx1
 have H2:=implMapOk_any d.va d.vc d.vs w1 (HB.out.sav.below HW1.out nl) hm2
 go_wp2_with fail
 clear x0 x1 x2 x3 x4 x5 x6 x7 x8 x9 xl
 refine H2.mono ?_
 clear H2
 rintro e w2 ⟨rfl,hb2⟩
 have hx2:=hx1.step hb2
 have HW2:Hid (Below w.heap.size w w2):=HW1.out.trans (hb2.mono HW1.out.size)
 clear hb2 hx1 HW1
 by_cases g2:mapB d.vs=true
 rotate_left
 ·have g':mapB d.vs=false:=by simpa using g2
  rw [g']
  have HF:Hid (RP (.returned (.bool false)) w2):=HNO.out _ (fun h=>g2 h.2.1) HW2.out
  clear HB HNO HYES
  go_wp2
  exact HF.out
 rw [g2]
 obtain ⟨x0,x1,x2,x3,x4,x5,x6,x7,x8,x9,xl⟩:=id hx2
 by_cases hlen:d.ms.length=d.vs.length
 rotate_left
 ·have hlb:((d.ms.length:Int) != (d.vs.length:Int))=true:=by rw [bne_iff_ne];omega
  have HF:Hid (RP (.returned (.bool false)) w2):=HNO.out _ (fun h=>hlen h.2.2.1) HW2.out
  clear HB HNO HYES hlen
  go_wp2
  exact HF.out
 have HLE:Hid (d.ms.length=d.vs.length∧True):=⟨hlen,trivial⟩
 have hlb:((d.ms.length:Int) != (d.vs.length:Int))=false:=by rw [bne_eq_false_iff_eq];omega
 clear hlen
 have H4:=implGeomOk_any d.ms.length d.ss.length w2
 go_wp2_with fail
 refine H4.mono ?_
 clear H4
 rintro e w3 ⟨rfl,rfl⟩
 by_cases g4:gmB d.ms.length d.ss.length=true
 rotate_left
 ·have g':gmB d.ms.length d.ss.length=false:=by simpa using g4
  rw [g']
  have HF:Hid (RP (.returned (.bool false)) w3):=HNO.out _ (fun h=>g4 h.2.2.2.1) HW2.out
  clear HB HNO HYES
  go_wp2
  exact HF.out
 rw [g4]
 have H5:=hasPlaces_any d.sa d.pa d.sc d.pc d.ss.length d.ps.length d.ma d.mc d.ms w3 hm3 (HB.out.map.below HW2.out nl) hm1
 go_wp2_with fail
 clear x0 x1 x2 x3 x4 x5 x6 x7 x8 x9 xl
 refine H5.mono ?_
 clear H5
 rintro e w5 ⟨h5,hb5⟩
 have hx5:=hx2.step hb5
 have HW5:Hid (Below w.heap.size w w5):=HW2.out.trans (hb5.mono HW2.out.size)
 clear hb5 hx2 HW2
 rcases h5 with ⟨g5,rfl⟩ | ⟨g5,rfl⟩
 ·skip
  have HF:Hid (RP (.returned (.bool false)) w5):=HNO.out _ (fun h=>h.2.2.2.2.1 g5) HW5.out
  clear HB HNO HYES g5
  go_wp2
  exact HF.out
 have HG5:Hid (¬badP d.ms d.ss.length d.ms.length):=g5
 clear g5
 obtain ⟨x0,x1,x2,x3,x4,x5,x6,x7,x8,x9,xl⟩:=id hx5
 have H6:=hasPlaces_any d.sa d.pa d.sc d.pc d.ss.length d.ps.length d.va d.vc d.vs w5 hm3 (HB.out.sav.below HW5.out nl) hm2
 go_wp2_with fail
 clear x0 x1 x2 x3 x4 x5 x6 x7 x8 x9 xl
 refine H6.mono ?_
 clear H6
 rintro e w6 ⟨h6,hb6⟩
 have hx6:=hx5.step hb6
 have HW6:Hid (Below w.heap.size w w6):=HW5.out.trans (hb6.mono HW5.out.size)
 clear hb6 hx5 HW5
 rcases h6 with ⟨g6,rfl⟩ | ⟨g6,rfl⟩
 ·skip
  have HF:Hid (RP (.returned (.bool false)) w6):=HNO.out _ (fun h=>h.2.2.2.2.2 g6) HW6.out
  clear HB HNO HYES g6
  go_wp2
  exact HF.out
 have HF:Hid (RP (.returned (.bool true)) w6):=HYES.out _ ⟨g1,g2,HLE.out.1,g4,HG5.out,g6⟩ HW6.out
 clear HB HNO HYES g6
 go_wp2
 exact HF.out
theorem openFits_any (f:List Int→Option (List Int)) (hf:DecF f) (d:DkV) (w:World) (hb:DkI w d) (hi:ItI w d.oa d.os) (hd:DkF d) (hS:SentB w) :
  Calls Tryz.prog 91 #[.agg #[.slice d.sa d.ss.length d.sc,.slice d.pa d.ps.length d.pc,.int .i64 d.E,.int .i64 d.O,.slice d.ma d.ms.length d.mc,.slice d.va d.vs.length d.vc,.slice d.ca d.cs.length d.cc,.int .i64 d.F,.int .i64 d.G,.slice d.oa d.os.length d.oc]] w fun r w'=>(((PkR f d.F d.G d.os∧d.F=0∧d.G=0∧¬badA d.os d.ms.length d.os.length)∧r=.returned (.bool true))∨(¬(PkR f d.F d.G d.os∧d.F=0∧d.G=0∧¬badA d.os d.ms.length d.os.length)∧r=.returned (.bool false)))∧Below w.heap.size w w':=by
 have hmf:∀ (fn:Fn) (first cap:Array Value) (w:World),(Instr.makeFunc fn first cap).run Tryz.prog w=.ok (.func fn first cap) w:=fun _ _ _ _=>rfl
 have HW0:Hid (Below w.heap.size w (w.alloc (Obj.cells #[.slice d.sa d.ss.length d.sc,.slice d.pa d.ps.length d.pc,.int .i64 d.E,.int .i64 d.O,.slice d.ma d.ms.length d.mc,.slice d.va d.vs.length d.vc,.slice d.ca d.cs.length d.cc,.int .i64 d.F,.int .i64 d.G,.slice d.oa d.os.length d.oc] 49))):=bAw
 have hx0:=Dk10.new w d 49
 generalize hRP:(fun (r:Ending) (w':World)=>(((PkR f d.F d.G d.os∧d.F=0∧d.G=0∧¬badA d.os d.ms.length d.os.length)∧r=.returned (.bool true))∨(¬(PkR f d.F d.G d.os∧d.F=0∧d.G=0∧¬badA d.os d.ms.length d.os.length)∧r=.returned (.bool false)))∧Below w.heap.size w w')=RP
 have HNO:Hid (∀ W,¬(PkR f d.F d.G d.os∧d.F=0∧d.G=0∧¬badA d.os d.ms.length d.os.length)→Below w.heap.size w W→RP (.returned (.bool false)) W):=fun W h hW=>by rw [←hRP];exact ⟨.inr ⟨h,rfl⟩,hW⟩
 have HYES:Hid (∀ W,(PkR f d.F d.G d.os∧d.F=0∧d.G=0∧¬badA d.os d.ms.length d.os.length)→Below w.heap.size w W→RP (.returned (.bool true)) W):=fun W h hW=>by rw [←hRP];exact ⟨.inl ⟨h,rfl⟩,hW⟩
 clear hRP
 have HB:Hid (DkI w d):=hb
 have hm1:=hd.ms
 have hm2:=hd.opn.n
 have H1:=implPackOk_any f hf d.F d.G d.oa d.oc d.os _ (hi.below HW0.out nl) hd.opn.j (hS.below HW0.out)
 clear hb hd hi hS hf
 go_enter Tryz.func91,Tryz.ntmps91
 go_wp2_with fail
 generalize (w.alloc (Obj.cells #[.slice d.sa d.ss.length d.sc,.slice d.pa d.ps.length d.pc,.int .i64 d.E,.int .i64 d.O,.slice d.ma d.ms.length d.mc,.slice d.va d.vs.length d.vc,.slice d.ca d.cs.length d.cc,.int .i64 d.F,.int .i64 d.G,.slice d.oa d.os.length d.oc] 49))=w0 at *
 refine H1.mono ?_
 clear H1
 rintro e w1 ⟨h1,hb1⟩
 have hx1:=hx0.step hb1
 have HW1:Hid (Below w.heap.size w w1):=HW0.out.trans (hb1.mono HW0.out.size)
 clear hb1 hx0 HW0
 rcases h1 with ⟨g1,rfl⟩ | ⟨g1,rfl⟩
 rotate_left
 ·skip
  have HF:Hid (RP (.returned (.bool false)) w1):=HNO.out _ (fun h=>g1 h.1) HW1.out
  clear HB HNO HYES g1
  go_wp2
  exact HF.out
 have HG1:Hid (PkR f d.F d.G d.os):=g1
 clear g1
 obtain ⟨x0,x1,x2,x3,x4,x5,x6,x7,x8,x9,xl⟩:=id hx1
 by_cases hzF:d.F=0
 rotate_left
 ·have hzb:(d.F != 0)=true:=by rw [bne_iff_ne];exact hzF
  have HF:Hid (RP (.returned (.bool false)) w1):=HNO.out _ (fun h=>hzF h.2.1) HW1.out
  clear HB HNO HYES hzF
  go_wp2
  exact HF.out
 have HZF:Hid (d.F=0∧True):=⟨hzF,trivial⟩
 have hzbF:(d.F != 0)=false:=by rw [hzF];rfl
 clear hzF
 by_cases hzG:d.G=0
 rotate_left
 ·have hzb:(d.G != 0)=true:=by rw [bne_iff_ne];exact hzG
  have HF:Hid (RP (.returned (.bool false)) w1):=HNO.out _ (fun h=>hzG h.2.2.1) HW1.out
  clear HB HNO HYES hzG
  go_wp2
  exact HF.out
 have HZG:Hid (d.G=0∧True):=⟨hzG,trivial⟩
 have hzbG:(d.G != 0)=false:=by rw [hzG];rfl
 clear hzG
 have H2:=containsIt_any w.heap.size d.ma d.mc d.ms.length d.oa d.oc d.os w1 x4 xl hm1 (HB.out.opn.below HW1.out nl) hm2
 go_wp2_with fail
 clear x0 x1 x2 x3 x4 x5 x6 x7 x8 x9 xl
 refine H2.mono ?_
 clear H2
 rintro e w2 ⟨h2,hb2⟩
 have hx2:=hx1.step hb2
 have HW2:Hid (Below w.heap.size w w2):=HW1.out.trans (hb2.mono HW1.out.size)
 clear hb2 hx1 HW1
 rcases h2 with ⟨g2,rfl⟩ | ⟨g2,rfl⟩
 ·skip
  have HF:Hid (RP (.returned (.bool false)) w2):=HNO.out _ (fun h=>h.2.2.2 g2) HW2.out
  clear HB HNO HYES g2
  go_wp2
  exact HF.out
 have HF:Hid (RP (.returned (.bool true)) w2):=HYES.out _ ⟨HG1.out,HZF.out.1,HZG.out.1,g2⟩ HW2.out
 clear HB HNO HYES g2
 go_wp2
 exact HF.out
theorem DkG.parts {f:List Int→Option (List Int)} {d:DkV}:DkG f d↔rok d.ss d.ps=true∧(0≤d.E∧d.E≤60000)∧(0≤d.O∧d.O≤60000)∧(mapB d.ms=true∧mapB d.vs=true∧d.ms.length=d.vs.length∧gmB d.ms.length d.ss.length=true∧¬badP d.ms d.ss.length d.ms.length∧¬badP d.vs d.ss.length d.vs.length)∧chK d.cs d.ss.length d.cs.length∧(PkR f d.F d.G d.os∧d.F=0∧d.G=0∧¬badA d.os d.ms.length d.os.length):=by
 constructor
 ·intro h
  exact ⟨h.raw,h.e,h.o,⟨h.map,h.sav,h.len,h.geo,fun ⟨i,hi,hn⟩=>hn ⟨mapB_lo h.map i hi,h.pm i hi⟩,fun ⟨i,hi,hn⟩=>hn ⟨mapB_lo h.sav i hi,h.ps i hi⟩⟩,h.ch,h.op,h.f0,h.g0,fun ⟨i,hi,hn⟩=>by have:=h.ad i hi;omega⟩
 ·rintro ⟨h1,h2,h3,⟨m1,m2,m3,m4,m5,m6⟩,h5,o1,o2,o3,o4⟩
  refine ⟨h1,m1,m2,m3,m4,fun i hi=>?_,fun i hi=>?_,h2,h3,h5,o1,o2,o3,fun i hi=>?_⟩
  ·rcases Int.lt_or_le (d.ms.getD i dp).1 d.ss.length with h | h
   ·exact h
   ·exact absurd ⟨i,hi,fun h2=>by omega⟩ m5
  ·rcases Int.lt_or_le (d.vs.getD i dp).1 d.ss.length with h | h
   ·exact h
   ·exact absurd ⟨i,hi,fun h2=>by omega⟩ m6
  ·rcases Int.lt_or_le (d.os.getD i de).n d.ms.length with h | h
   ·exact h
   ·exact absurd ⟨i,hi,h⟩ o4
theorem implDiskOk_any (f:List Int→Option (List Int)) (hf:DecF f) (d:DkV) (w:World) (hb:DkI w d) (hi:ItI w d.oa d.os) (hd:DkF d) (hS:SentB w) :
  Calls Tryz.prog 50 #[.agg #[.slice d.sa d.ss.length d.sc,.slice d.pa d.ps.length d.pc,.int .i64 d.E,.int .i64 d.O,.slice d.ma d.ms.length d.mc,.slice d.va d.vs.length d.vc,.slice d.ca d.cs.length d.cc,.int .i64 d.F,.int .i64 d.G,.slice d.oa d.os.length d.oc]] w (DkA f d w):=by
 unfold DkA
 have HW0:Hid (Below w.heap.size w (w.alloc (Obj.cells #[.slice d.sa d.ss.length d.sc,.slice d.pa d.ps.length d.pc,.int .i64 d.E,.int .i64 d.O,.slice d.ma d.ms.length d.mc,.slice d.va d.vs.length d.vc,.slice d.ca d.cs.length d.cc,.int .i64 d.F,.int .i64 d.G,.slice d.oa d.os.length d.oc] 49))):=bAw
 have hx0:=Dk10.new w d 49
 generalize hRP:(fun (r:Ending) (w':World)=>((DkG f d∧r=.returned (.bool true))∨(¬DkG f d∧r=.returned (.bool false)))∧Below w.heap.size w w')=RP
 have HNO:Hid (∀ W,¬DkG f d→Below w.heap.size w W→RP (.returned (.bool false)) W):=fun W h hW=>by rw [←hRP];exact ⟨.inr ⟨h,rfl⟩,hW⟩
 have HYES:Hid (∀ W,DkG f d→Below w.heap.size w W→RP (.returned (.bool true)) W):=fun W h hW=>by rw [←hRP];exact ⟨.inl ⟨h,rfl⟩,hW⟩
 clear hRP
 have HB:Hid (DkI w d∧ItI w d.oa d.os∧DkF d∧SentB w∧DecF f):=⟨hb,hi,hd,hS,hf⟩
 have H1:=implRawOk_any d.sa d.pa d.sc d.pc d.ss d.ps _ (hb.raw.below HW0.out nl) (by have:=hd.raw.n;omega) (by have:=hd.raw.m;omega) (fun s hs=>by have:=hd.raw.l s hs;omega) (fun s hs=>by have:=hd.raw.p s hs;omega)
 clear hb hd hi hS hf
 go_enter Tryz.func50,Tryz.ntmps50
 go_wp2_with fail
 generalize (w.alloc (Obj.cells #[.slice d.sa d.ss.length d.sc,.slice d.pa d.ps.length d.pc,.int .i64 d.E,.int .i64 d.O,.slice d.ma d.ms.length d.mc,.slice d.va d.vs.length d.vc,.slice d.ca d.cs.length d.cc,.int .i64 d.F,.int .i64 d.G,.slice d.oa d.os.length d.oc] 49))=w0 at *
 refine H1.mono ?_
 clear H1
 rintro e w1 ⟨rfl,hb1⟩
 have hx1:=hx0.step hb1
 have HW1:Hid (Below w.heap.size w w1):=HW0.out.trans (hb1.mono HW0.out.size)
 clear hb1 hx0 HW0
 by_cases g1:rok d.ss d.ps=true
 rotate_left
 ·have g':rok d.ss d.ps=false:=by simpa using g1
  rw [g']
  have HF:Hid (RP (.returned (.bool false)) w1):=HNO.out _ (fun h=>g1 h.raw) HW1.out
  clear HB HNO HYES
  go_wp2
  exact HF.out
 rw [g1]
 obtain ⟨x0,x1,x2,x3,x4,x5,x6,x7,x8,x9,xl⟩:=id hx1
 have HEE:=epochOk_any d.E w1
 by_cases gE:0≤d.E∧d.E≤60000
 rotate_left
 ·rw [decide_eq_false gE] at HEE
  have HF:Hid (RP (.returned (.bool false)) w1):=HNO.out _ (fun h=>gE h.e) HW1.out
  clear HB HNO HYES gE
  go_wp2_with fail
  refine HEE.mono ?_
  clear HEE
  rintro e w2 ⟨rfl,rfl⟩
  go_wp2
  exact HF.out
 rw [decide_eq_true gE] at HEE
 have HGE:Hid (0≤d.E∧d.E≤60000):=gE
 clear gE
 go_wp2_with fail
 refine HEE.mono ?_
 clear HEE
 rintro e w2 ⟨rfl,rfl⟩
 have HEO:=epochOk_any d.O w2
 by_cases gO:0≤d.O∧d.O≤60000
 rotate_left
 ·rw [decide_eq_false gO] at HEO
  have HF:Hid (RP (.returned (.bool false)) w2):=HNO.out _ (fun h=>gO h.o) HW1.out
  clear HB HNO HYES gO
  go_wp2_with fail
  refine HEO.mono ?_
  clear HEO
  rintro e w2 ⟨rfl,rfl⟩
  go_wp2
  exact HF.out
 rw [decide_eq_true gO] at HEO
 have HGO:Hid (0≤d.O∧d.O≤60000):=gO
 clear gO
 go_wp2_with fail
 refine HEO.mono ?_
 clear HEO
 rintro e w3 ⟨rfl,rfl⟩
 have H4:=mapsFit_any d _ (HB.out.1.below HW1.out nl) HB.out.2.2.1
 go_wp2_with fail
 clear x0 x1 x2 x3 x4 x5 x6 x7 x8 x9 xl
 refine H4.mono ?_
 clear H4
 rintro e w4 ⟨h4,hb4⟩
 have hx4:=hx1.step hb4
 have HW4:Hid (Below w.heap.size w w4):=HW1.out.trans (hb4.mono HW1.out.size)
 clear hb4 hx1 HW1
 rcases h4 with ⟨g4,rfl⟩ | ⟨g4,rfl⟩
 rotate_left
 ·skip
  have HF:Hid (RP (.returned (.bool false)) w4):=HNO.out _ (fun h=>g4 (DkG.parts.1 h).2.2.2.1) HW4.out
  clear HB HNO HYES g4
  go_wp2
  exact HF.out
 have HG4:Hid (mapB d.ms=true∧mapB d.vs=true∧d.ms.length=d.vs.length∧gmB d.ms.length d.ss.length=true∧¬badP d.ms d.ss.length d.ms.length∧¬badP d.vs d.ss.length d.vs.length):=g4
 have hn24:d.ss.length≤24:=by
  have:=g4.2.2.2.1
  unfold gmB at this
  have:=of_decide_eq_true this
  omega
 clear g4
 obtain ⟨x0,x1,x2,x3,x4,x5,x6,x7,x8,x9,xl⟩:=id hx4
 have H5:=chainFits_any d w4 (HB.out.1.below HW4.out nl) hn24 HB.out.2.2.1.cs
 go_wp2_with fail
 clear x0 x1 x2 x3 x4 x5 x6 x7 x8 x9 xl
 refine H5.mono ?_
 clear H5
 rintro e w5 ⟨h5,hb5⟩
 have hx5:=hx4.step hb5
 have HW5:Hid (Below w.heap.size w w5):=HW4.out.trans (hb5.mono HW4.out.size)
 clear hb5 hx4 HW4
 rcases h5 with ⟨g5,rfl⟩ | ⟨g5,rfl⟩
 rotate_left
 ·skip
  have HF:Hid (RP (.returned (.bool false)) w5):=HNO.out _ (fun h=>g5 h.ch) HW5.out
  clear HB HNO HYES g5
  go_wp2
  exact HF.out
 have HG5:Hid (chK d.cs d.ss.length d.cs.length):=g5
 clear g5
 obtain ⟨x0,x1,x2,x3,x4,x5,x6,x7,x8,x9,xl⟩:=id hx5
 have H6:=openFits_any f HB.out.2.2.2.2 d w5 (HB.out.1.below HW5.out nl) (HB.out.2.1.below HW5.out nl) HB.out.2.2.1 (HB.out.2.2.2.1.below HW5.out)
 go_wp2_with fail
 clear x0 x1 x2 x3 x4 x5 x6 x7 x8 x9 xl
 refine H6.mono ?_
 clear H6
 rintro e w6 ⟨h6,hb6⟩
 have hx6:=hx5.step hb6
 have HW6:Hid (Below w.heap.size w w6):=HW5.out.trans (hb6.mono HW5.out.size)
 clear hb6 hx5 HW5
 rcases h6 with ⟨g6,rfl⟩ | ⟨g6,rfl⟩
 rotate_left
 ·skip
  have HF:Hid (RP (.returned (.bool false)) w6):=HNO.out _ (fun h=>g6 (DkG.parts.1 h).2.2.2.2.2) HW6.out
  clear HB HNO HYES g6
  go_wp2
  exact HF.out
 have HF:Hid (RP (.returned (.bool true)) w6):=HYES.out _ (DkG.parts.2 ⟨g1,HGE.out,HGO.out,HG4.out,HG5.out,g6⟩) HW6.out
 clear HB HNO HYES g6
 go_wp2
 exact HF.out
end Go.Proofs.YtaibkchbkedjnaaGreatDoor
