import Derived.Test.YtaibkchbkedjnaaGreatDoorDkS2
import Derived.Maps.GroupsBeside
import Derived.OpenShut
import Derived.ChangeSlices
set_option maxRecDepth 20000
set_option maxHeartbeats 16000000
namespace Go.Proofs.YtaibkchbkedjnaaGreatDoor
open Go.RowKit
set_option linter.unusedVariables false
set_option linter.unusedSimpArgs false
theorem z1m (x:Int) (w:World) :
  Calls Tryz.prog 203 #[.int .i64 x] w fun e w'=>e=.returned (.bool (decide (2<=x/\x<=23)))/\w'=w:=by
 have key:(2<=x/\x<24)\/x<2\/(2<=x/\24<=x):=by omega
 rcases key with ⟨h1,h2⟩ | h1 | ⟨h1,h2⟩
 ·rw [decide_eq_true (show 2<=x/\x<=23 by omega)]
  go_enter Tryz.func203,Tryz.ntmps203
  go_wp2
  go_ret;exact ⟨by simp [h1,h2],rfl⟩
 ·rw [decide_eq_false (show ¬(2<=x/\x<=23) by omega)]
  go_enter Tryz.func203,Tryz.ntmps203
  go_wp2
  go_ret;exact ⟨rfl,rfl⟩
 ·rw [decide_eq_false (show ¬(2<=x/\x<=23) by omega)]
  have h3:¬x<24:=by omega
  go_enter Tryz.func203,Tryz.ntmps203
  go_wp2
  go_ret;exact ⟨by simp [h3],rfl⟩
theorem za0 (x y:Int) (w:World) :
  Calls Tryz.prog 138 #[.agg #[.int .i64 x,.int .i64 y]] w fun e w'=>e=.returned (.bool (nwh (x,y)))/\Below w.heap.size w w':=by
 have key:(x=0/\y=0)\/(x=0/\¬y=0)\/¬x=0:=by omega
 rcases key with ⟨rfl,rfl⟩ | ⟨rfl,h⟩ | h
 ·go_enter Tryz.func138,Tryz.ntmps138
  go_wp2
  go_ret;exact ⟨rfl,(Below.refl _ _).alloc nl _⟩
 ·rw [show nwh (0,y)=false from by unfold nwh;simp [h]]
  go_enter Tryz.func138,Tryz.ntmps138
  go_wp2
  go_ret;exact ⟨rfl,(Below.refl _ _).alloc nl _⟩
 ·rw [show nwh (x,y)=false from by unfold nwh;simp [h]]
  go_enter Tryz.func138,Tryz.ntmps138
  go_wp2
  go_ret;exact ⟨rfl,(Below.refl _ _).alloc nl _⟩
theorem zfi (x y:Int) (w:World) :
  Calls Tryz.prog 187 #[.agg #[.int .i64 x,.int .i64 y]] w fun e w'=>e=.returned (.bool (rgt (x,y)))/\Below w.heap.size w w':=by
 have hw:Below w.heap.size w (w.alloc (Obj.cells #[.int .i64 x,.int .i64 y] 127)):=ba;have key:(2<=x/\x<=23)\/¬(2<=x/\x<=23):=by omega
 rcases key with h | h
 ·have kk:(0<=y/\y<16)\/¬(0<=y)\/(0<=y/\¬y<16):=by omega
  rcases kk with ⟨h1,h2⟩ | h1 | ⟨h1,h2⟩
  ·rw [show rgt (x,y)=true from decide_eq_true ⟨h.1,h.2,h1,by simp only;omega⟩]
   go_enter Tryz.func187,Tryz.ntmps187
   go_wp2_with fail
   refine (z1m x _).mono ?_;rintro e w1 ⟨rfl,rfl⟩;rw [decide_eq_true h];go_wp2;go_ret;exact ⟨by simp [h1,h2],hw⟩
  ·rw [show rgt (x,y)=false from decide_eq_false (fun hh=>h1 hh.2.2.1)]
   go_enter Tryz.func187,Tryz.ntmps187
   go_wp2_with fail
   refine (z1m x _).mono ?_;rintro e w1 ⟨rfl,rfl⟩;rw [decide_eq_true h];go_wp2;go_ret;exact ⟨by simp [h1],hw⟩
  ·rw [show rgt (x,y)=false from decide_eq_false (fun hh=>h2 (by have:=hh.2.2.2;simp only at this;omega))]
   go_enter Tryz.func187,Tryz.ntmps187
   go_wp2_with fail
   refine (z1m x _).mono ?_;rintro e w1 ⟨rfl,rfl⟩;rw [decide_eq_true h];go_wp2;go_ret;exact ⟨by simp [h1,h2],hw⟩
 ·rw [show rgt (x,y)=false from decide_eq_false (fun hh=>h ⟨hh.1,hh.2.1⟩)]
  go_enter Tryz.func187,Tryz.ntmps187
  go_wp2_with fail
  refine (z1m x _).mono ?_;rintro e w1 ⟨rfl,rfl⟩;rw [decide_eq_false h];go_wp2;go_ret;exact ⟨rfl,hw⟩
theorem zbf (a:Option Addr) (n c:Nat) (x:Int) (w:World) (hn:n<=1048576) :
  Calls Tryz.prog 92 #[.slice a n c,.int .i64 x] w fun e w'=>e=.returned (.bool (decide (0<=x/\x<n)))/\w'=w:=by
 have key:(0<=x/\x<n)\/¬0<=x\/(0<=x/\¬x<n):=by omega
 rcases key with ⟨h1,h2⟩ | h1 | ⟨h1,h2⟩
 ·rw [decide_eq_true ⟨h1,h2⟩]
  go_enter Tryz.func92,Tryz.ntmps92
  go_wp2
  go_ret;exact ⟨by simp [h1,h2],rfl⟩
 ·rw [decide_eq_false (fun hh=>h1 hh.1)]
  go_enter Tryz.func92,Tryz.ntmps92
  go_wp2
  go_ret;exact ⟨by simp [h1],rfl⟩
 ·rw [decide_eq_false (fun hh=>h2 hh.2)]
  go_enter Tryz.func92,Tryz.ntmps92
  go_wp2
  go_ret;exact ⟨by simp [h1,h2],rfl⟩
def z0x (ps:List (Int × Int)) (x:Int):Int × Int:=if 0<=x/\x<ps.length then ps.getD x.toNat dp else dp
theorem z5f (a:Option Addr) (c:Nat) (ps:List (Int × Int)) (x:Int) (w:World) (hb:Pls w a ps) (hn:ps.length<=1048576) :
  Calls Tryz.prog 137 #[.slice a ps.length c,.int .i64 x] w fun e w'=>e=.returned (.agg #[.int .i64 (z0x ps x).1,.int .i64 (z0x ps x).2])/\Below w.heap.size w w':=by
 have hw:Below w.heap.size w (w.alloc (Obj.cells #[.int .i64 0,.int .i64 0] 127)):=ba
 by_cases h:0<=x/\x<ps.length
 ·obtain ⟨k,rfl⟩:=Int.eq_ofNat_of_zero_le h.1
  have hk:k<ps.length:=by omega
  have he:z0x ps (k:Nat)=ps.getD k dp:=by unfold z0x;rw [if_pos h,Int.toNat_natCast]
  rw [he];obtain ⟨b,off,rfl,hb1,hc1⟩:=(hb.alloc (Obj.cells #[.int .i64 0,.int .i64 0] 127)).len_pos k hk;obtain ⟨c0,c1⟩:=hc1 k hk;have hbw:b<w.heap.size:=by
   obtain ⟨b',off',e,hb',_⟩:=hb.2 (by omega)
   simp at e
   omega
  clear hc1 he hb;generalize ps.getD k dp=p at *;generalize ps.length=n at *;obtain ⟨x,y⟩:=p
  simp only at c0 c1 ⊢
  go_enter Tryz.func137,Tryz.ntmps137
  go_wp2_with fail
  refine (zbf _ n c k _ hn).mono ?_;rintro e w1 ⟨rfl,rfl⟩;rw [decide_eq_true h];go_wp2;refine bodyPost_ret (v:=.agg #[.int .i64 x,.int .i64 y]) (by simp [results,Tryz.results137,go_sem]) rfl ⟨rfl,?_⟩
  repeat (refine Below.setCell ?_ (by first | (simp;done) | (simp;omega)) _)
  first | exact hw | exact (Below.refl _ _).alloc nl _
 ·have he:z0x ps x=dp:=by unfold z0x;rw [if_neg h]
  rw [he];clear he hb
  go_enter Tryz.func137,Tryz.ntmps137
  go_wp2_with fail
  refine (zbf a ps.length c x _ hn).mono ?_;rintro e w1 ⟨rfl,rfl⟩;rw [decide_eq_false h];go_wp2;refine bodyPost_ret (v:=.agg #[.int .i64 0,.int .i64 0]) (by simp [results,Tryz.results137,go_sem]) rfl ⟨rfl,?_⟩
  repeat (refine Below.setCell ?_ (by first | (simp;done) | (simp;omega)) _)
  first | exact hw | exact (Below.refl _ _).alloc nl _
theorem z7q (ps:List (Int × Int)) (k:Nat) (h:k<ps.length):z0x ps k=ps.getD k dp:=by unfold z0x;rw [if_pos (by omega),Int.toNat_natCast]
open Go.Maps Go.ChangeShapes Go.ChangeAt
theorem Tryz.lawKI :Keyed Tryz.prog 3:=int_keyed Tryz.underlying3
theorem Tryz.zeroSI (w:World):(zeroValue 29).run Tryz.prog w=.ok (.slice none 0 0) w:=by kernel_rfl
def Itm (d:DataW Unit) (zs:List Int):Prop:=(d=.nil/\zs=[])\/d=.slice (lits .i64 zs) []
theorem zib {zs ys:List Int} (h:(lits .i64 zs:List (DataW Unit))=lits .i64 ys):zs=ys:=by
 unfold lits at h;exact (List.map_inj_right (fun a b hab=>by simpa using hab)).1 h
theorem Itm.eq {d:DataW Unit} {zs ys:List Int} (h:Itm d zs) (h2:Itm d ys):zs=ys:=by
 rcases h with ⟨h,rfl⟩ | h <;> rcases h2 with ⟨h2,rfl⟩ | h2
 ·rfl
 ·rw [h] at h2;cases h2
 ·rw [h] at h2;cases h2
 ·rw [h] at h2
  injection h2 with h2
  exact zib h2
theorem Itm.of {w:World} {base:Nat} {e:TypeId} {v:Value} {zs:List Int} {d:DataW Unit} (h:w.ownsInts base e .i64 v zs) (hd:d=rowDatum .i64 v zs):Itm d zs:=by
 rcases h.datum (H:=Unit) with ⟨h1,h2⟩ | h1
 ·exact .inl ⟨hd.trans h1,h2⟩
 ·exact .inr (hd.trans h1)
def Liv (w:World) (M n:Nat) (f:Int->List Int):Prop:=
 ∃ D:DataW Unit,w.ownsGroups Tryz.prog 3 (M+1) 3 .i64 M n D/\IsMap D/\∀ s,Itm (D.atKey (.int .i64 s) .nil) (f s)
theorem Liv.made (w:World):Liv (w.alloc (.map #[] 0)) w.heap.size 0 (fun _=>[]):=
 ⟨.map [],World.ownsGroups_made w _ _ _ _,isMap_empty,fun s=>.inl ⟨rfl,rfl⟩⟩
theorem zct {w w':World} (hb:Below w.heap.size w w'):w.grownBy w' none:=⟨hb.os,hb.tape,hb.output,hb.size,fun k hk _=>hb.block k hk⟩
theorem Liv.below {w w':World} {M n:Nat} {f:Int->List Int} (h:Liv w M n f) (hb:Below w.heap.size w w'):Liv w' M n f:=by
 obtain ⟨D,h1,h2,h3⟩:=h;exact ⟨D,h1.kept (zct hb) (by simp) (fun _ _ _ x _=>by cases x.val.ownBlock <;> simp),h2,h3⟩
theorem Liv.lt {w:World} {M n:Nat} {f:Int->List Int} (h:Liv w M n f):M<w.heap.size:=by
 obtain ⟨D,⟨es,clock,hb,_⟩,_⟩:=h;exact (Array.getElem?_eq_some_iff.1 hb).1
theorem Liv.look {w:World} {M n:Nat} {f:Int->List Int} (h:Liv w M n f) (hn:n<=1000) (s:Int) (hs:(Lit.int .i64 s).wf=true) :
  ∃ v,(Instr.lookup 178 (.map (some M)) (.int .i64 s) false).run Tryz.prog w=.ok v w/\OVI w (M+1) v (f s)/\(f s).length<=n:=by
 obtain ⟨D,h1,h2,h3⟩:=h;obtain ⟨v,zs,hrun,hat,hoi,hzl,_⟩:=h1.at Tryz.lawKI Tryz.underlying178 (Tryz.zeroSI _) (by unfold maxLen;omega) (keyOf_int_mk Tryz.underlying3 hs)
 obtain rfl:zs=f s:=(Itm.of hoi hat).eq (h3 s);exact ⟨v,hrun,⟨hoi.1,fun z hz=>bounds_i64 (hoi.2 z hz)⟩,hzl⟩
def liv (ps:List (Int × Int)):Nat->Int->List Int
 | 0,_=>[]
 | k+1,s=>if !nwh (ps.getD k dp) && (ps.getD k dp).1 == s then liv ps k s++[(k:Int)] else liv ps k s
theorem zdr (ps:List (Int × Int)) (k:Nat) (s z:Int):z ∈ liv ps k s↔∃ i:Nat,i<k/\z=i/\nwh (ps.getD i dp)=false/\(ps.getD i dp).1=s:=by
 induction k with
 | zero=>simp [liv]
 | succ k ih=>
  simp only [liv]
  constructor
  ·intro h
   split at h
   ·rename_i hc
    simp only [Bool.and_eq_true,Bool.not_eq_true',beq_iff_eq] at hc
    rcases List.mem_append.1 h with h | h
    ·obtain ⟨i,hi,r⟩:=ih.1 h
     exact ⟨i,by omega,r⟩
    ·simp at h
     exact ⟨k,by omega,h,hc.1,hc.2⟩
   ·obtain ⟨i,hi,r⟩:=ih.1 h
    exact ⟨i,by omega,r⟩
  ·rintro ⟨i,hi,rfl,h1,h2⟩
   rcases Nat.lt_or_ge i k with h | h
   ·have:=ih.2 ⟨i,h,rfl,h1,h2⟩
    split
    ·exact List.mem_append_left _ this
    ·exact this
   ·obtain rfl:i=k:=by omega
    rw [if_pos (by rw [h1,h2];simp)]
    simp
theorem zjb (ps:List (Int × Int)) (k:Nat) (s:Int):(liv ps k s).length<=k:=by
 induction k with
 | zero=>simp [liv]
 | succ k ih=>
  simp only [liv]
  split
  ·simp;omega
  ·omega
theorem zkl (ps:List (Int × Int)) (k:Nat) (h:nwh (ps.getD k dp)=true):liv ps (k+1)=liv ps k:=by
 funext s
 simp only [liv,h]
 simp
theorem zl8 (ps:List (Int × Int)) (k:Nat) (h:nwh (ps.getD k dp)=false) (s:Int):liv ps (k+1) s=if s=(ps.getD k dp).1 then liv ps k s++[(k:Int)] else liv ps k s:=by
 simp only [liv,h]
 by_cases hs:s=(ps.getD k dp).1
 ·rw [if_pos hs,if_pos (by rw [hs];simp)]
 ·rw [if_neg hs,if_neg]
  simp
  exact fun e=>hs e.symm
end Go.Proofs.YtaibkchbkedjnaaGreatDoor
namespace Go.Proofs.YtaibkchbkedjnaaGreatDoor
open Go.RowKit
set_option linter.unusedVariables false
set_option linter.unusedSimpArgs false
structure Atl (w:World) (R M:Nat) (a:Option Addr) (n c:Nat):Prop where
 blk:w.heap[R]?=some (.cells #[.slice a n c,.map (some M)] 180 (0,0))
theorem Atl.c0 {w:World} {R M:Nat} {a:Option Addr} {n c:Nat} (h:Atl w R M a n c):w.cell? ⟨R,0,none⟩=some (.slice a n c):=by
 rw [cell_of_row w R 0 _ _ (0,0) h.blk];rfl
theorem Atl.c1 {w:World} {R M:Nat} {a:Option Addr} {n c:Nat} (h:Atl w R M a n c):w.cell? ⟨R,1,none⟩=some (.map (some M)):=by
 rw [cell_of_row w R 1 _ _ (0,0) h.blk];rfl
theorem Atl.lt {w:World} {R M:Nat} {a:Option Addr} {n c:Nat} (h:Atl w R M a n c):R<w.heap.size:=(Array.getElem?_eq_some_iff.1 h.blk).1
theorem Atl.below {w w':World} {R M:Nat} {a:Option Addr} {n c:Nat} (h:Atl w R M a n c) (hb:Below w.heap.size w w'):Atl w' R M a n c:=⟨(hb.block R h.lt).trans h.blk⟩
theorem zbu (R M P Q:Nat) (a:Option Addr) (c:Nat) (ps:List (Int × Int)) (z x y:Int) (w:World) (hA:Atl w R M a ps.length c) (hb:Pls w a ps) (hn:ps.length<=1048576)
  (hP:w.cell? ⟨P,0,none⟩=some (.pointer (some ⟨R,0,none⟩))) (hQ0:w.cell? ⟨Q,0,none⟩=some (.int .i64 x)) (hQ1:w.cell? ⟨Q,1,none⟩=some (.int .i64 y)) (hPl:P<w.heap.size) (hQl:Q<w.heap.size) :
  Calls Tryz.prog 205 #[.int .i64 z,.pointer (some ⟨P,0,none⟩),.pointer (some ⟨Q,0,none⟩)] w fun e w'=>e=.returned (.bool (z0x ps z == (x,y)))/\Below w.heap.size w w':=by
 have hR:=hA.lt;have HPO:=z5f a c ps z w.drew hb hn;have HC:Hid (w.cell? ⟨P,0,none⟩=some (.pointer (some ⟨R,0,none⟩))/\w.cell? ⟨R,0,none⟩=some (.slice a ps.length c)/\w.cell? ⟨Q,0,none⟩=some (.int .i64 x)/\w.cell? ⟨Q,1,none⟩=some (.int .i64 y)):=⟨hP,hA.c0,hQ0,hQ1⟩;clear hb hA hP hQ0 hQ1;generalize z0x ps z=q at *;obtain ⟨x2,y2⟩:=q
 simp only at HPO
 have key:(x2=x/\y2=y)\/¬x2=x\/(x2=x/\¬y2=y):=by omega
 rcases key with ⟨rfl,rfl⟩ | h | ⟨rfl,h⟩
 ·rw [show ((x2,y2) == (x2,y2))=true from by simp]
  go_enter Tryz.func205,Tryz.ntmps205
  go_wp2_with fail
  go_region_held3 (fun W=>W.cell? ⟨P,0,none⟩=some (.pointer (some ⟨R,0,none⟩))/\W.cell? ⟨R,0,none⟩=some (.slice a ps.length c)/\W.cell? ⟨Q,0,none⟩=some (.int .i64 x2)/\W.cell? ⟨Q,1,none⟩=some (.int .i64 y2))
   (first | exact HC.out | exact HC8.out)
   (first
    | (go_at_call 137;refine HPO.mono ?_;rintro e w8 ⟨rfl,hb8'⟩;have hb8:=Below.drewS hb8';have HC8:Hid (w8.cell? ⟨P,0,none⟩=some (.pointer (some ⟨R,0,none⟩))/\w8.cell? ⟨R,0,none⟩=some (.slice a ps.length c)/\w8.cell? ⟨Q,0,none⟩=some (.int .i64 x2)/\w8.cell? ⟨Q,1,none⟩=some (.int .i64 y2)):=⟨keep hb8 hPl HC.out.1,keep hb8 hR HC.out.2.1,keep hb8 hQl HC.out.2.2.1,keep hb8 hQl HC.out.2.2.2⟩))
  go_wp2
  go_ret;exact ⟨rfl,hb8⟩
 ·rw [show ((x2,y2) == (x,y))=false from by simp;exact fun e=>absurd e h]
  go_enter Tryz.func205,Tryz.ntmps205
  go_wp2_with fail
  go_region_held3 (fun W=>W.cell? ⟨P,0,none⟩=some (.pointer (some ⟨R,0,none⟩))/\W.cell? ⟨R,0,none⟩=some (.slice a ps.length c)/\W.cell? ⟨Q,0,none⟩=some (.int .i64 x)/\W.cell? ⟨Q,1,none⟩=some (.int .i64 y))
   (first | exact HC.out | exact HC8.out)
   (first
    | (go_at_call 137;refine HPO.mono ?_;rintro e w8 ⟨rfl,hb8'⟩;have hb8:=Below.drewS hb8';have HC8:Hid (w8.cell? ⟨P,0,none⟩=some (.pointer (some ⟨R,0,none⟩))/\w8.cell? ⟨R,0,none⟩=some (.slice a ps.length c)/\w8.cell? ⟨Q,0,none⟩=some (.int .i64 x)/\w8.cell? ⟨Q,1,none⟩=some (.int .i64 y)):=⟨keep hb8 hPl HC.out.1,keep hb8 hR HC.out.2.1,keep hb8 hQl HC.out.2.2.1,keep hb8 hQl HC.out.2.2.2⟩))
  go_wp2
  go_ret;exact ⟨rfl,hb8⟩
 ·rw [show ((x2,y2) == (x2,y))=false from by simp;exact h]
  go_enter Tryz.func205,Tryz.ntmps205
  go_wp2_with fail
  go_region_held3 (fun W=>W.cell? ⟨P,0,none⟩=some (.pointer (some ⟨R,0,none⟩))/\W.cell? ⟨R,0,none⟩=some (.slice a ps.length c)/\W.cell? ⟨Q,0,none⟩=some (.int .i64 x2)/\W.cell? ⟨Q,1,none⟩=some (.int .i64 y))
   (first | exact HC.out | exact HC8.out)
   (first
    | (go_at_call 137;refine HPO.mono ?_;rintro e w8 ⟨rfl,hb8'⟩;have hb8:=Below.drewS hb8';have HC8:Hid (w8.cell? ⟨P,0,none⟩=some (.pointer (some ⟨R,0,none⟩))/\w8.cell? ⟨R,0,none⟩=some (.slice a ps.length c)/\w8.cell? ⟨Q,0,none⟩=some (.int .i64 x2)/\w8.cell? ⟨Q,1,none⟩=some (.int .i64 y)):=⟨keep hb8 hPl HC.out.1,keep hb8 hR HC.out.2.1,keep hb8 hQl HC.out.2.2.1,keep hb8 hQl HC.out.2.2.2⟩))
  go_wp2
  go_ret;exact ⟨rfl,hb8⟩
structure TkW (w:World) (R M P Q:Nat) (a:Option Addr) (c:Nat) (ps:List (Int × Int)) (x y:Int):Prop where
 atl:Atl w R M a ps.length c
 pls:Pls w a ps
 hP:w.cell? ⟨P,0,none⟩=some (.pointer (some ⟨R,0,none⟩))
 hQ0:w.cell? ⟨Q,0,none⟩=some (.int .i64 x)
 hQ1:w.cell? ⟨Q,1,none⟩=some (.int .i64 y)
 hPl:P<w.heap.size
 hQl:Q<w.heap.size
theorem TkW.below {w w':World} {R M P Q:Nat} {a:Option Addr} {c:Nat} {ps:List (Int × Int)} {x y:Int} (h:TkW w R M P Q a c ps x y) (hb:Below w.heap.size w w'):TkW w' R M P Q a c ps x y:=
 ⟨h.atl.below hb,h.pls.below hb nl,keep hb h.hPl h.hP,keep hb h.hQl h.hQ0,keep hb h.hQl h.hQ1,Nat.lt_of_lt_of_le h.hPl hb.size,Nat.lt_of_lt_of_le h.hQl hb.size⟩
def z05 (ps:List (Int × Int)) (p:Int × Int) (zs:List Int):Bool:=zs.any (fun z=>z0x ps z == p)
theorem zgs (ps:List (Int × Int)) (p:Int × Int) (zs:List Int) (k:Nat) (h:k<zs.length):z05 ps p (zs.take (k+1))=(z05 ps p (zs.take k) || (z0x ps (zs.getD k 0) == p)):=by
 unfold z05;rw [List.take_succ_eq_append_getElem h,List.any_append]
 simp [List.getD_eq_getElem?_getD,List.getElem?_eq_getElem h]
theorem zhq (ps:List (Int × Int)) (p:Int × Int) (zs:List Int) (k:Nat) (h:k<zs.length) (h2:(z0x ps (zs.getD k 0) == p)=true):z05 ps p zs=true:=by
 unfold z05;rw [List.any_eq_true];refine ⟨zs.getD k 0,?_,h2⟩;rw [List.getD_eq_getElem?_getD,List.getElem?_eq_getElem h];exact List.getElem_mem h
theorem z9g (R M P Q:Nat) (a:Option Addr) (c:Nat) (ps:List (Int × Int)) (x y:Int) (za:Option Addr) (zc:Nat) (zs:List Int) (w:World) (hT:TkW w R M P Q a c ps x y) (hz:Ins w za zs) (hn:ps.length<=1048576) (hzn:zs.length<=1048576) :
  Calls Tryz.prog 220 #[.slice za zs.length zc,.func (.func 205) #[] #[.pointer (some ⟨P,0,none⟩),.pointer (some ⟨Q,0,none⟩)]] w fun e w'=>
   (∃ r:Int,e=.returned (.int .i64 r)/\((z05 ps (x,y) zs=true/\0<=r)\/(z05 ps (x,y) zs=false/\r=-1)))/\Below w.heap.size w w':=by
 have HT:Hid (TkW w R M P Q a c ps x y):=hT;have HZ:Hid (Ins w za zs):=hz;have HH:Hid (∀ k,k<zs.length->(z0x ps (zs.getD k 0) == (x,y))=true->z05 ps (x,y) zs=true):=fun k h h2=>zhq ps (x,y) zs k h h2
 have HU:Hid (∀ k,k<zs.length->z05 ps (x,y) (zs.take (k+1))=(z05 ps (x,y) (zs.take k) || (z0x ps (zs.getD k 0) == (x,y)))):=fun k h=>zgs ps (x,y) zs k h
 have HE:Hid (z05 ps (x,y) (zs.take zs.length)=z05 ps (x,y) zs/\z05 ps (x,y) (zs.take 0)=false):=⟨by rw [List.take_length],rfl⟩
 clear hT hz;generalize hlen:zs.length=n at *;have HL:Hid (zs.length=n/\True):=⟨hlen,trivial⟩;clear hlen;generalize z05 ps (x,y) zs=r0 at *
 go_enter Tryz.func220,Tryz.ntmps220
 go_wp2
 go_loopw [8] (fun i wr=>∃ k:Nat,k<=n/\i=.int .i64 k/\z05 ps (x,y) (zs.take k)=false/\Below w.heap.size w wr) (fun i _=>n-(intOf i).toNat)
 case atStart=>exact ⟨0,Nat.zero_le _,rfl,HE.out.2,Below.refl _ _⟩
 case round=>
  obtain ⟨k,hk,rfl,han,hbel⟩:=hrel;have HAN:Hid (z05 ps (x,y) (zs.take k)=false/\True):=⟨han,trivial⟩;clear han
  by_cases hlt:k<n
  ·obtain ⟨b,off,rfl,hb1,hc1⟩:=(HZ.out.below hbel nl).len_pos k (by rw [HL.out.1];exact hlt)
   have c0:=hc1 k (by rw [HL.out.1];exact hlt)
   have hu:=HU.out k hlt;have hh:=HH.out k hlt;rw [HAN.out.1,Bool.false_or] at hu;clear hc1;generalize zs.getD k 0=z at *;have t:=HT.out.below (hbel.mono (by omega):Below w.heap.size w wr)
   have HCL:=zbu R M P Q a c ps z x y wr t.atl t.pls hn t.hP t.hQ0 t.hQ1 t.hPl t.hQl;clear t;have HU2:Hid (z05 ps (x,y) (zs.take (k+1))=(z0x ps z == (x,y))/\((z0x ps z == (x,y))=true->r0=true)):=⟨hu,hh⟩;clear hu hh;generalize (z0x ps z == (x,y))=bb at *;go_wp2_with fail
   refine HCL.mono ?_;clear HCL;rintro e w1 ⟨rfl,hb1'⟩;have HB1:Hid (Below w.heap.size w w1):=hbel.trans (hb1'.mono hbel.size);clear hb1' hbel c0 hb1
   cases bb with
   | true=>
    go_wp2
    go_ret;exact ⟨⟨_,rfl,.inl ⟨HU2.out.2 (by trivial),by omega⟩⟩,HB1.out⟩
   | false=>
    go_wp2
    go_roundw
    case rel=>exact ⟨k+1,by omega,by go_num,HU2.out.1,HB1.out⟩
    case measure=>simp [intOf];omega
  ·have hkn:k=n:=by omega
   subst hkn;have HF:Hid (r0=false/\True):=⟨by rw [<-HE.out.1];exact HAN.out.1,trivial⟩
   go_wp2
   go_ret;exact ⟨⟨_,rfl,.inr ⟨HF.out.1,rfl⟩⟩,hbel⟩
theorem z5s (R M P Q:Nat) (a:Option Addr) (c:Nat) (ps:List (Int × Int)) (x y:Int) (za:Option Addr) (zc:Nat) (zs:List Int) (w:World) (hT:TkW w R M P Q a c ps x y) (hz:Ins w za zs) (hn:ps.length<=1048576) (hzn:zs.length<=1048576) :
  Calls Tryz.prog 204 #[.slice za zs.length zc,.func (.func 205) #[] #[.pointer (some ⟨P,0,none⟩),.pointer (some ⟨Q,0,none⟩)]] w fun e w'=>
   e=.returned (.bool (z05 ps (x,y) zs))/\Below w.heap.size w w':=by
 have HI:=z9g R M P Q a c ps x y za zc zs w hT hz hn hzn;clear hT hz
 go_enter Tryz.func204,Tryz.ntmps204
 go_wp2_with fail
 refine HI.mono ?_;clear HI;rintro e w1 ⟨⟨r,rfl,hr⟩,hb1⟩;have HB:Hid (Below w.heap.size w w1):=hb1;clear hb1;rcases hr with ⟨h1,h2⟩ | ⟨h1,rfl⟩
 ·have H1:Hid (z05 ps (x,y) zs=true/\True):=⟨h1,trivial⟩
  clear h1;go_wp2;go_ret;exact ⟨by rw [H1.out.1];simp [h2],HB.out⟩
 ·have H1:Hid (z05 ps (x,y) zs=false/\True):=⟨h1,trivial⟩
  clear h1;go_wp2;go_ret;exact ⟨by rw [H1.out.1];rfl,HB.out⟩
theorem zcw (R M:Nat) (a:Option Addr) (c:Nat) (ps:List (Int × Int)) (x y:Int) (n k:Nat) (w:World) (hA:Atl w R M a ps.length c) (hb:Pls w a ps) (hL:Liv w M n (liv ps k)) (hx:-9223372036854775808<=x/\x<=9223372036854775807) (hn:ps.length<=1048576) (hn2:n<=1000) :
  Calls Tryz.prog 188 #[.pointer (some ⟨R,0,none⟩),.agg #[.int .i64 x,.int .i64 y]] w fun e w'=>
   e=.returned (.bool (z05 ps (x,y) (liv ps k x)))/\Below w.heap.size w w':=by
 have hw:Below w.heap.size w ((w.alloc (Obj.cells #[.pointer (some ⟨R,0,none⟩)] 174)).alloc (Obj.cells #[.int .i64 x,.int .i64 y] 127)):=
  ((Below.refl _ _).alloc nl _).alloc (by simp) _
 have HT:Hid (TkW ((w.alloc (Obj.cells #[.pointer (some ⟨R,0,none⟩)] 174)).alloc (Obj.cells #[.int .i64 x,.int .i64 y] 127)) R M w.heap.size (w.heap.size+1) a c ps x y):=by
  have h1:(w.alloc (Obj.cells #[.pointer (some ⟨R,0,none⟩)] 174)).heap.size=w.heap.size+1:=by simp
  refine ⟨hA.below hw,hb.below hw nl,ze _ (by simp) (by simp),?_,?_,by simp;omega,by simp⟩
  ·rw [<-h1];simp
  ·rw [<-h1];simp
 have HLV:Hid (Liv ((w.alloc (Obj.cells #[.pointer (some ⟨R,0,none⟩)] 174)).alloc (Obj.cells #[.int .i64 x,.int .i64 y] 127)) M n (liv ps k)):=hL.below hw;clear hA hb hL
 go_enter Tryz.func188,Tryz.ntmps188
 go_wp2_with fail
 generalize (w.alloc (Obj.cells #[.pointer (some ⟨R,0,none⟩)] 174)).alloc (Obj.cells #[.int .i64 x,.int .i64 y] 127)=W at *;have hbd:Below W.heap.size W W.drew:=⟨rfl,rfl,rfl,Nat.le_refl _,fun _ _=>rfl⟩
 obtain ⟨v,hlk,hov,hlen⟩:=(HLV.out.below hbd).look hn2 x (WalkArith.wf_i64 hx);obtain ⟨za,zc,rfl⟩:=hov.form;have HCF:=z5s R M w.heap.size (w.heap.size+1) a c ps x y za zc (liv ps k x) W.drew (HT.out.below hbd) hov.ins hn (by omega)
 have hlk2:Sem.run Tryz.prog (Instr.lookup 178 (.map (some M)) (.int .i64 x) false) W.drew=.ok (.slice za (liv ps k x).length zc) W.drew:=hlk;have HC:Hid (W.cell? ⟨w.heap.size,0,none⟩=some (.pointer (some ⟨R,0,none⟩))/\W.cell? ⟨R,1,none⟩=some (.map (some M))/\W.cell? ⟨w.heap.size+1,0,none⟩=some (.int .i64 x)):=⟨HT.out.hP,HT.out.atl.c1,HT.out.hQ0⟩;have p0:=HC.out.1;have p1:=HC.out.2.1;have p2:=HC.out.2.2
 clear hlk hov;generalize hrr:z05 ps (x,y) (liv ps k x)=rr at *;have HRR:Hid (z05 ps (x,y) (liv ps k x)=rr/\True):=⟨hrr,trivial⟩;clear hrr;generalize (liv ps k x).length=zn at *
 go_region_with (go_at_call 204;refine HCF.mono ?_;rintro e w8 ⟨rfl,hb8⟩)
 all_goals
  have HB8:Hid (Below w.heap.size w w8):=hw.trans ((Below.drewS hb8).mono hw.size);clear hb8;go_wp2;go_ret;exact ⟨by rw [HRR.out.1];rfl,HB8.out⟩
open Go.Maps
theorem zic (ps:List (Int × Int)) (k:Nat) (hk:k<=ps.length) (p:Int × Int) (hp:nwh p=false):z05 ps p (liv ps k p.1)=tkn ps p k:=by
 rw [Bool.eq_iff_iff];unfold z05;rw [List.any_eq_true,z7o]
 constructor
 ·rintro ⟨z,hz,he⟩
  obtain ⟨i,hi,rfl,h1,h2⟩:=(zdr ps k p.1 z).1 hz;rw [z7q ps i (by omega)] at he
  exact ⟨i,hi,by simpa using he⟩
 ·rintro ⟨i,hi,he⟩
  refine ⟨(i:Int),(zdr ps k p.1 i).2 ⟨i,hi,rfl,by rw [he];exact hp,by rw [he]⟩,?_⟩
  rw [z7q ps i (by omega),he]
  simp
theorem Liv.put {w:World} {M n:Nat} {f:Int->List Int} (h:Liv w M n f) (hn:n<=1000) (s:Int) (hs:(Lit.int .i64 s).wf=true) :
  ∃ v,(Instr.lookup 178 (.map (some M)) (.int .i64 s) false).run Tryz.prog w=.ok v w/\OVI w (M+1) v (f s)/\(f s).length<=n /\
   ∀ (w1:World) (v':Value) (z:Int),w.grownBy w1 v.ownBlock->OVI w1 (M+1) v' (f s++[z])->(v'.ownBlock=v.ownBlock\/∃ g,v'.ownBlock=some g/\w.heap.size<=g) ->
    ∃ w2,(Instr.mapUpdate 178 (.map (some M)) (.int .i64 s) v').run Tryz.prog w1=.ok () w2/\Liv w2 M (n+1) (fun t=>if t=s then f s++[z] else f t)/\w1.grownBy w2 (some M):=by
 obtain ⟨D,h1,h2,h3⟩:=h;obtain ⟨v,zs,hrun,hat,hoi,hzl,hback⟩:=h1.at Tryz.lawKI Tryz.underlying178 (Tryz.zeroSI _) (by unfold maxLen;omega) (keyOf_int_mk Tryz.underlying3 hs)
 obtain rfl:zs=f s:=(Itm.of hoi hat).eq (h3 s);refine ⟨v,hrun,⟨hoi.1,fun z hz=>bounds_i64 (hoi.2 z hz)⟩,hzl,fun w1 v' z hg ho hloc=>?_⟩
 have hoi':w1.ownsInts (M+1) 3 .i64 v' (f s++[z]):=⟨ho.1,fun y hy=>WalkArith.wf_i64 (ho.2 y hy)⟩
 obtain ⟨w2,hr2,hg2,hgr2⟩:=hback w1 v' (f s++[z]) hg hoi' (by simp;omega) hloc
 refine ⟨w2,hr2,⟨_,hg2,h2.put _ _,fun t=>?_⟩,hgr2⟩
 by_cases ht:t=s
 ·subst ht
  show Itm _ (if t=t then _ else _)
  rw [if_pos rfl,atKey_put_same h2 (Tryz.lawKI.key (keyOf_int_mk Tryz.underlying3 hs))];exact Itm.of hoi' rfl
 ·show Itm _ (if t=s then _ else _)
  rw [if_neg ht,atKey_put_other (by simpa using ht)]
  exact h3 t
theorem z4d {P:Program} {ops:Array Oper} {o:Oper} {a:Act} {w:World} {K:Act->World->Prop} {Q:Exit->Act->World->Prop} {E:Prop} (hg:o.guard=none) (h:Oper.wp P o a w K Q) :
  if Region.wanted o (yielded ops a.tmps)=true then Oper.wp P o a w K Q else E:=by
 rw [if_pos (by simp [Region.wanted,hg])]
 exact h
theorem z4q {o:Oper} {a:Act} {w:World} {K:Act->World->Prop} {Q:Exit->Act->World->Prop} (s x:Operand) (ho:o.op=.call { callee:=.builtin .append,args:=#[s,x],argTypes:=#[29,29] })
  (B:Nat) (v:Value) (zs:List Int) (hs:a.eval s=v) (hown:OVI w B v zs) (X:Nat) (z:Int) (hx:a.eval x=.slice (some ⟨X,0,none⟩) 1 1) (hX:w.cell? ⟨X,0,none⟩=some (.int .i64 z)) (hz0:-9223372036854775808<=z) (hz1:z<=9223372036854775807) (hb1:zs.length<=1000000) (hbase:B<=w.heap.size)
  (h:∀ v' w',OVI w' B v' (zs++[z])->w.grownBy w' v.ownBlock->(v'.ownBlock=v.ownBlock\/v'.ownBlock=some w.heap.size)->K (a.put o.dst v') w'):o.wp Tryz.prog a w K Q:=by
 obtain ⟨i0,hi,hz0',hz1',hz2⟩:=info_parts Tryz.infoI64;obtain ⟨v',w',hr,h2,h3,_,h5⟩:=run_append_own_at (P:=Tryz.prog) w B 29 o.type 3 i0 (.int .i64 0) 1 8 Tryz.underlying29 hi hz0' hz1' hz2 rfl (by decide) v zs.length _ hown.1 ⟨X,0,none⟩ 1 1 [.int .i64 z] rfl (by
  intro j u hu
  cases j with
  | zero=>simp at hu;subst hu;simpa [Addr.add] using hX
  | succ j=>simp at hu) (by simp [Value.oneCell']) (by unfold maxLen;omega) (by omega) hbase
 have hr':(Builtin.append_ #[29,29] o.type #[v,.slice (some ⟨X,0,none⟩) 1 1]).run Tryz.prog w=.ok v' w':=hr;unfold Oper.wp execOp
 simp only [ho,resolve,invoke,builtin,Sem.run_bind,Sem.run_pure,Result.andThen_ok,List.map_toArray,List.map_cons,List.map_nil,hs,hx,hr']
 refine h v' w' ⟨?_,fun y hy=>?_⟩ h3 h5
 ·rw [List.length_append,List.map_append]
  exact h2
 ·rcases List.mem_append.1 hy with hy | hy
  ·exact hown.2 y hy
  ·simp at hy
   omega
theorem z2u {w:World} {R j:Nat} {cur:Array Value} {T:TypeId} {v:Value} (hR:w.heap[R]?=some (.cells cur T (0,0))) (hv:cur[j]?=some v):w.cell? ⟨R,j,none⟩=some v:=by
 rw [cell_of_row w R j cur T (0,0) hR];exact hv
theorem z8v {w0 w1 w2:World} {M:Nat} {v:Value} {zs:List Int} {wv:World} (hg1:w0.grownBy w1 v.ownBlock) (hg2:w1.grownBy w2 (some M)) (hM:M<=w0.heap.size) (ho:OVI wv (M+1) v zs):Below M w0 w2:=
 (((Below.refl M w0).grown hg1 hM (fun j hj=>by have:=ho.blk hj;omega)).grown hg2 (by have:=hg1.size;omega) (fun j hj=>by cases hj;exact Nat.le_refl _))
theorem Liv.mono {w:World} {M n m:Nat} {f:Int->List Int} (h:Liv w M n f) (hm:n<=m):Liv w M m f:=by
 obtain ⟨D,⟨es,clock,h1,h2,h3,h4,h5,h6,h7⟩,h8⟩:=h;exact ⟨D,⟨es,clock,h1,h2,by omega,h4,h5,fun x hx zs hz=>by have:=h6 x hx zs hz;omega,h7⟩,h8⟩
theorem zej (R M:Nat) (a:Option Addr) (c:Nat) (ps:List (Int × Int)) (k n:Nat) (w:World) (hA:Atl w R M a ps.length c) (hb:Pls w a ps) (hL:Liv w M n (liv ps k)) (hMR:M≠R) (hk:k<ps.length) (hn:ps.length<=16) (hn2:n<=1000) :
  Calls Tryz.prog 167 #[.pointer (some ⟨R,0,none⟩),.int .i64 k] w fun e w'=>
   e=.returned (.bool (z0j ps k))/\(z0j ps k=true->Liv w' M (n+1) (liv ps (k+1))/\Atl w' R M a ps.length c)/\Below M w w':=by
 have hMl:=hL.lt;have a0:=hA.c0;have hRl:=hA.lt;have HPO:=z5f a c ps k w hb (by omega)
 rw [z7q ps k hk] at HPO;have HST:Hid (z0j ps k=(nwh (ps.getD k dp) || (rgt (ps.getD k dp) && !tkn ps (ps.getD k dp) k))/\True):=⟨rfl,trivial⟩;have HTK:Hid (nwh (ps.getD k dp)=false->z05 ps (ps.getD k dp) (liv ps k (ps.getD k dp).1)=tkn ps (ps.getD k dp) k):=fun h=>zic ps k (by omega) _ h
 have HNW:Hid (nwh (ps.getD k dp)=true->liv ps (k+1)=liv ps k):=zkl ps k;have HLI0:Hid (nwh (ps.getD k dp)=false->∀ s,liv ps (k+1) s=if s=(ps.getD k dp).1 then liv ps k s++[(k:Int)] else liv ps k s):=zl8 ps k
 have HRG:Hid (rP (ps.getD k dp)):=hb.1 _ (z8k hk);have HLN:Hid (∀ s,(liv ps k s).length<=k):=zjb ps k;have HA:Hid (Atl w R M a ps.length c/\Pls w a ps/\Liv w M n (liv ps k)):=⟨hA,hb,hL⟩;clear hA hb hL;generalize ps.getD k dp=q at *;obtain ⟨x,y⟩:=q
 simp only at HPO
 go_enter Tryz.func167,Tryz.ntmps167
 go_wp2_with fail
 refine HPO.mono ?_;clear HPO;rintro e w1 ⟨rfl,hb1⟩;have hb2:Below w.heap.size w (w1.alloc (Obj.cells #[.int .i64 x,.int .i64 y] 127)):=hb1.alloc hb1.size _;have b0:(w1.alloc (Obj.cells #[.int .i64 x,.int .i64 y] 127)).cell? ⟨w1.heap.size,0,none⟩=some (.int .i64 x):=by simp
 have b1:(w1.alloc (Obj.cells #[.int .i64 x,.int .i64 y] 127)).cell? ⟨w1.heap.size,1,none⟩=some (.int .i64 y):=by simp
 have HBK:Hid ((w1.alloc (Obj.cells #[.int .i64 x,.int .i64 y] 127)).heap[w1.heap.size]?=some (.cells #[.int .i64 x,.int .i64 y] 127 (0,0))/\w1.heap.size<(w1.alloc (Obj.cells #[.int .i64 x,.int .i64 y] 127)).heap.size):=⟨heap_alloc_new w1 _,by simp⟩
 have HB2:Hid (Below w.heap.size w (w1.alloc (Obj.cells #[.int .i64 x,.int .i64 y] 127))):=hb2;clear hb1 hb2;go_wp2_with fail
 generalize w1.heap.size=B at *;generalize w1.alloc (Obj.cells #[.int .i64 x,.int .i64 y] 127)=W at *;refine (za0 x y W).mono ?_;rintro e w3 ⟨rfl,hb3⟩;have HB3:Hid (Below w.heap.size w w3):=HB2.out.trans (hb3.mono HB2.out.size);have c0:=keep hb3 HBK.out.2 b0;have c1:=keep hb3 HBK.out.2 b1;have HBK3:Hid (w3.heap[B]?=some (.cells #[.int .i64 x,.int .i64 y] 127 (0,0))/\B<w3.heap.size):=⟨(hb3.block B HBK.out.2).trans HBK.out.1,Nat.lt_of_lt_of_le HBK.out.2 hb3.size⟩
 clear hb3 b0 b1 HB2 HBK a0
 cases hnw:nwh (x,y) with
 | true=>
  have HF:Hid (z0j ps k=true/\liv ps (k+1)=liv ps k):=⟨by rw [HST.out.1,hnw];rfl,HNW.out hnw⟩
  clear HST HTK HNW HLI0 hnw;go_wp2;go_ret;exact ⟨by rw [HF.out.1];rfl,fun _=>⟨by rw [HF.out.2];exact (HA.out.2.2.below HB3.out).mono (by omega),HA.out.1.below HB3.out⟩,HB3.out.mono (by omega)⟩
 | false=>
  have HST1:Hid (z0j ps k=(rgt (x,y) && !tkn ps (x,y) k)/\True):=⟨by rw [HST.out.1,hnw];rfl,trivial⟩
  have HTK1:Hid (z05 ps (x,y) (liv ps k x)=tkn ps (x,y) k/\True):=⟨HTK.out hnw,trivial⟩;have HLI:Hid (∀ s,liv ps (k+1) s=if s=x then liv ps k s++[(k:Int)] else liv ps k s):=HLI0.out hnw
  clear HST HTK HNW HLI0 hnw;go_wp2_with fail
  refine (zfi x y w3).mono ?_;rintro e w4 ⟨rfl,hb4⟩;have HB4:Hid (Below w.heap.size w w4):=HB3.out.trans (hb4.mono HB3.out.size);have d0:=keep hb4 HBK3.out.2 c0;have d1:=keep hb4 HBK3.out.2 c1;have HBK4:Hid (w4.heap[B]?=some (.cells #[.int .i64 x,.int .i64 y] 127 (0,0))/\B<w4.heap.size):=⟨(hb4.block B HBK3.out.2).trans HBK3.out.1,Nat.lt_of_lt_of_le HBK3.out.2 hb4.size⟩;clear hb4 c0 c1 HB3 HBK3
  cases hrg:rgt (x,y) with
  | false=>
   have HF:Hid (z0j ps k=false/\True):=⟨by rw [HST1.out.1,hrg];rfl,trivial⟩
   clear HST1 HTK1 hrg;go_wp2;go_ret;exact ⟨by rw [HF.out.1];rfl,fun h=>(by rw [HF.out.1] at h;cases h),HB4.out.mono (by omega)⟩
  | true=>
   have HST2:Hid (z0j ps k=(!tkn ps (x,y) k)/\True):=⟨by rw [HST1.out.1,hrg];rfl,trivial⟩
   clear HST1 hrg;have HIT:=zcw R M a c ps x y n k w4 (HA.out.1.below HB4.out) (HA.out.2.1.below HB4.out nl) (HA.out.2.2.below HB4.out) HRG.out.1 (by omega) hn2
   rw [HTK1.out.1] at HIT;clear HTK1;go_wp2_with fail
   refine HIT.mono ?_;clear HIT;rintro e V ⟨rfl,hb5⟩;have HB5:Hid (Below w.heap.size w V):=HB4.out.trans (hb5.mono HB4.out.size);have b0:=keep hb5 HBK4.out.2 d0;have HBK5:Hid (V.heap[B]?=some (.cells #[.int .i64 x,.int .i64 y] 127 (0,0))/\B<V.heap.size):=⟨(hb5.block B HBK4.out.2).trans HBK4.out.1,Nat.lt_of_lt_of_le HBK4.out.2 hb5.size⟩;clear hb5 d0 d1 HB4 HBK4
   cases htk:tkn ps (x,y) k with
   | true=>
    have HF:Hid (z0j ps k=false/\True):=⟨by rw [HST2.out.1,htk];rfl,trivial⟩
    clear HST2 htk;go_wp2;go_ret;exact ⟨by rw [HF.out.1];rfl,fun h=>(by rw [HF.out.1] at h;cases h),HB5.out.mono (by omega)⟩
   | false=>
    have HSTT:Hid (z0j ps k=true/\True):=⟨by rw [HST2.out.1,htk];rfl,trivial⟩
    clear HST2 htk;have HLV:Hid (Liv V M n (liv ps k)):=HA.out.2.2.below HB5.out;have hAV:=HA.out.1.below HB5.out;have a1:=hAV.c1;have HBL:Hid (M≠R/\V.heap[R]?=some (.cells #[.slice a ps.length c,.map (some M)] 180 (0,0))/\V.heap[B]?=some (.cells #[.int .i64 x,.int .i64 y] 127 (0,0))/\R<V.heap.size/\B<V.heap.size):=⟨hMR,hAV.blk,HBK5.out.1,hAV.lt,HBK5.out.2⟩;have hVd:Below V.heap.size V V.drew:=⟨rfl,rfl,rfl,Nat.le_refl _,fun _ _=>rfl⟩
    have HBV:Hid (Below M w V.drew):=(HB5.out.mono (by omega)).trans (hVd.mono (by have:=HB5.out.size;omega))
    have hxr:=HRG.out.1;have hlx:=HLN.out x;have hVl:=HLV.out.lt;clear hAV HBK5 hMR HB5;go_wp2_with fail
    all_goals
     refine zh (S:=fun W=>W.cell? ⟨R,1,none⟩=some (.map (some M))/\W.cell? ⟨B,0,none⟩=some (.int .i64 x)) 16 (by kernel_rfl) (by kernel_rfl) (by exact ⟨a1,b0⟩) (fun hHeld=>?_)
     refine tk 0 ?_
     try simp only [tkS]
     refine tk 1 ?_
     try simp only [tkS]
     refine tk 2 ?_
     try simp only [tkS]
     refine tk 3 ?_
     try simp only [tkS]
     refine tk 4 ?_
     try simp only [tkS]
     refine tk 5 ?_
     try simp only [tkS]
     refine tk 6 ?_
     try simp only [tkS]
     refine tk 7 ?_
     try simp only [tkS]
     refine tk 8 ?_
     try simp only [tkS]
     refine tk 9 ?_
     try simp only [tkS]
     refine tk 10 ?_
     try simp only [tkS]
     refine tk 11 ?_
     try simp only [tkS]
     refine tk 13 ?_
     try simp only [tkS]
     refine wpAnyH_ready (rs:=[12,14]) (by kernel_rfl) (by simp) ?_
     refine AllReadyH.cons rfl (fun K hK=>?_) (AllReadyH.cons rfl (fun K hK=>?_) AllReadyH.nil)
     ·obtain ⟨v,hlk,hov,hlen,hput⟩:=(HLV.out.below hVd).put hn2 x (WalkArith.wf_i64 hxr)
      obtain ⟨va,vc,rfl⟩:=hov.form;have hlk2:Sem.run Tryz.prog (Instr.lookup 178 (.map (some M)) (.int .i64 x) false) V.drew=.ok (.slice va (liv ps k x).length vc) V.drew:=hlk;have HPUT:Hid _:=hput;have HOV:Hid (OVI (V.drew.alloc (Obj.cells #[.int .i64 k] 3)) (M+1) (.slice va (liv ps k x).length vc) (liv ps k x)/\M≠R/\(V.drew.alloc (Obj.cells #[.int .i64 k] 3)).heap[R]?=some (.cells #[.slice a ps.length c,.map (some M)] 180 (0,0))/\(V.drew.alloc (Obj.cells #[.int .i64 k] 3)).heap[B]?=some (.cells #[.int .i64 x,.int .i64 y] 127 (0,0))):=⟨hov.below ((Below.refl _ _).alloc nl _),HBL.out.1,(Below.heap_alloc _ _ _ (by exact HBL.out.2.2.2.1)).trans HBL.out.2.1,(Below.heap_alloc _ _ _ (by exact HBL.out.2.2.2.2)).trans HBL.out.2.2.1⟩
      clear hlk hput hov
      go_simp
      refine hK.out _ _ (by exact ⟨a1,b0⟩) (fun hHeld=>?_)
      clear hK K
      try simp only [tkS]
      refine wpAnyH_ready (rs:=[14]) (by kernel_rfl) (by simp) ?_
      refine AllReadyH.cons rfl (fun K hK=>?_) AllReadyH.nil
      go_simp
      refine hK.out _ _ (by exact ⟨ze _ (by exact HBL.out.2.2.2.1) a1,ze _ (by exact HBL.out.2.2.2.2) b0⟩) (fun hHeld=>?_)
      clear hK K hlk2
      try simp only [tkS]
      refine wpAnyH_ready (rs:=[15]) (by kernel_rfl) (by simp) ?_
      refine AllReadyH.cons rfl (fun K hK=>?_) AllReadyH.nil
      refine z4d rfl (z4q (.tmp 34) (.tmp 36) rfl (M+1) (.slice va (liv ps k x).length vc) (liv ps k x) (by simp [Act.eval]) HOV.out.1 V.drew.heap.size (k:Int) (by simp [Act.eval]) (by simp) (by omega) (by omega) (by omega) (by simp;omega) ?_)
      intro v1 w1 hov1 hg1 hat1
      have hg01:V.drew.grownBy w1 (Value.slice va (liv ps k x).length vc).ownBlock:=(World.grownBy_alloc _ _ _).trans hg1;obtain ⟨w2,hr2,hl2,hg2⟩:=HPUT.out w1 v1 k hg01 hov1 (hat1.imp id (fun h=>⟨_,h,by simp⟩))
      obtain ⟨va1,vc1,hv1⟩:=hov1.form;have hln:(liv ps k x++[(k:Int)]).length=(liv ps k x).length+1:=by simp
      rw [hln] at hv1;clear hln;subst hv1;have hne:=HOV.out.2;have A1:=z0s hg1 hne.2.1 (HOV.out.1.blk_ne hne.2.1 (by decide))
      have B1:=z0s hg1 hne.2.2 (HOV.out.1.blk_ne hne.2.2 (by decide))
      have hMR:M≠R:=hne.1;have HEND:Hid (Liv w2 M (n+1) (liv ps (k+1))/\Atl w2 R M a ps.length c/\Below M w w2):=by
       refine ⟨?_,⟨z0s hg2 A1 (by simpa using fun e:R=M=>hMR e.symm)⟩,HBV.out.trans (z8v hg01 hg2 (Nat.le_of_lt HLV.out.lt) HOV.out.1)⟩
       have he:(fun t=>if t=x then liv ps k x++[(k:Int)] else liv ps k t)=liv ps (k+1):=by
        funext t
        rw [HLI.out t]
        by_cases ht:t=x
        ·rw [if_pos ht,if_pos ht,ht]
        ·rw [if_neg ht,if_neg ht]
       rw [<-he];exact hl2
      have hr2':Sem.run Tryz.prog (Instr.mapUpdate 178 (.map (some M)) (.int .i64 x) (.slice va1 ((liv ps k x).length+1) vc1)) w1=.ok () w2:=hr2;refine hK.out _ _ (by exact ⟨z2u A1 rfl,z2u B1 rfl⟩) (fun hHeld=>?_)
      clear hK K
      try simp only [tkS]
      refine wpAnyH_done (by kernel_rfl) ?_ _
      simp only [z0i,List.drop_succ_cons,List.drop_zero]
      clear hHeld hl2 hg2 hg1 hov1 hat1 hg01 hr2;go_wp2;go_ret;exact ⟨by rw [HSTT.out.1];rfl,fun _=>⟨HEND.out.1,HEND.out.2.1⟩,HEND.out.2.2⟩
     ·have hVa:Below V.heap.size V (V.drew.alloc (Obj.cells #[.int .i64 k] 3)):=hVd.alloc nl _
      obtain ⟨v,hlk,hov,hlen,hput⟩:=(HLV.out.below hVa).put hn2 x (WalkArith.wf_i64 hxr);obtain ⟨va,vc,rfl⟩:=hov.form;have hlk2:Sem.run Tryz.prog (Instr.lookup 178 (.map (some M)) (.int .i64 x) false) (V.alloc (Obj.cells #[.int .i64 k] 3)).drew=.ok (.slice va (liv ps k x).length vc) (V.alloc (Obj.cells #[.int .i64 k] 3)).drew:=hlk;have HPUT:Hid _:=hput;have HOV:Hid (OVI (V.drew.alloc (Obj.cells #[.int .i64 k] 3)) (M+1) (.slice va (liv ps k x).length vc) (liv ps k x)/\M≠R/\(V.drew.alloc (Obj.cells #[.int .i64 k] 3)).heap[R]?=some (.cells #[.slice a ps.length c,.map (some M)] 180 (0,0))/\(V.drew.alloc (Obj.cells #[.int .i64 k] 3)).heap[B]?=some (.cells #[.int .i64 x,.int .i64 y] 127 (0,0))):=⟨hov,HBL.out.1,(Below.heap_alloc _ _ _ (by exact HBL.out.2.2.2.1)).trans HBL.out.2.1,(Below.heap_alloc _ _ _ (by exact HBL.out.2.2.2.2)).trans HBL.out.2.2.1⟩
      clear hlk hput hov
      go_simp
      refine hK.out _ _ (by exact ⟨ze _ (by exact HBL.out.2.2.2.1) a1,ze _ (by exact HBL.out.2.2.2.2) b0⟩) (fun hHeld=>?_)
      clear hK K
      try simp only [tkS]
      refine wpAnyH_ready (rs:=[12]) (by kernel_rfl) (by simp) ?_
      refine AllReadyH.cons rfl (fun K hK=>?_) AllReadyH.nil
      go_simp
      refine hK.out _ _ (by exact hHeld) (fun hHeld=>?_)
      clear hK K hlk2
      try simp only [tkS]
      refine wpAnyH_ready (rs:=[15]) (by kernel_rfl) (by simp) ?_
      refine AllReadyH.cons rfl (fun K hK=>?_) AllReadyH.nil
      refine z4d rfl (z4q (.tmp 34) (.tmp 36) rfl (M+1) (.slice va (liv ps k x).length vc) (liv ps k x) (by simp [Act.eval]) HOV.out.1 V.drew.heap.size (k:Int) (by simp [Act.eval]) (by simp) (by omega) (by omega) (by omega) (by simp;omega) ?_)
      intro v1 w1 hov1 hg1 hat1
      have hg01:(V.drew.alloc (Obj.cells #[.int .i64 k] 3)).grownBy w1 (Value.slice va (liv ps k x).length vc).ownBlock:=hg1;obtain ⟨w2,hr2,hl2,hg2⟩:=HPUT.out w1 v1 k hg01 hov1 (hat1.imp id (fun h=>⟨_,h,by simp⟩))
      obtain ⟨va1,vc1,hv1⟩:=hov1.form;have hln:(liv ps k x++[(k:Int)]).length=(liv ps k x).length+1:=by simp
      rw [hln] at hv1;clear hln;subst hv1;have hne:=HOV.out.2;have A1:=z0s hg1 hne.2.1 (HOV.out.1.blk_ne hne.2.1 (by decide))
      have B1:=z0s hg1 hne.2.2 (HOV.out.1.blk_ne hne.2.2 (by decide))
      have hMR:M≠R:=hne.1;have HEND:Hid (Liv w2 M (n+1) (liv ps (k+1))/\Atl w2 R M a ps.length c/\Below M w w2):=by
       refine ⟨?_,⟨z0s hg2 A1 (by simpa using fun e:R=M=>hMR e.symm)⟩,HBV.out.trans (z8v ((World.grownBy_alloc V.drew _ _).trans hg01) hg2 (Nat.le_of_lt HLV.out.lt) HOV.out.1)⟩
       have he:(fun t=>if t=x then liv ps k x++[(k:Int)] else liv ps k t)=liv ps (k+1):=by
        funext t
        rw [HLI.out t]
        by_cases ht:t=x
        ·rw [if_pos ht,if_pos ht,ht]
        ·rw [if_neg ht,if_neg ht]
       rw [<-he];exact hl2
      have hr2':Sem.run Tryz.prog (Instr.mapUpdate 178 (.map (some M)) (.int .i64 x) (.slice va1 ((liv ps k x).length+1) vc1)) w1=.ok () w2:=hr2;refine hK.out _ _ (by exact ⟨z2u A1 rfl,z2u B1 rfl⟩) (fun hHeld=>?_)
      clear hK K
      try simp only [tkS]
      refine wpAnyH_done (by kernel_rfl) ?_ _
      simp only [z0i,List.drop_succ_cons,List.drop_zero]
      clear hHeld hl2 hg2 hg1 hov1 hat1 hg01 hr2;go_wp2;go_ret;exact ⟨by rw [HSTT.out.1];rfl,fun _=>⟨HEND.out.1,HEND.out.2.1⟩,HEND.out.2.2⟩
end Go.Proofs.YtaibkchbkedjnaaGreatDoor
