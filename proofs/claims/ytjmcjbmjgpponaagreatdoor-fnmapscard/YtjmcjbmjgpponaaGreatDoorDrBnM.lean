import Derived.Test.YtjmcjbmjgpponaaGreatDoorPkB
set_option maxRecDepth 20000
set_option maxHeartbeats 16000000
namespace Go.Proofs.YtjmcjbmjgpponaaGreatDoor
open Go.RowKit
set_option linter.unusedVariables false
def dp :Int × Int:=(0,0)
def rP (p:Int × Int):Prop:=(-9223372036854775808<=p.1/\p.1<=9223372036854775807)/\(-9223372036854775808<=p.2/\p.2<=9223372036854775807)
def pcs (p:Int × Int):List Value:=[.int .i64 p.1,.int .i64 p.2]
def Pls (w:World) (a:Option Addr) (ps:List (Int × Int)):Prop:=
 (∀ p ∈ ps,rP p)/\(0<ps.length->∃ b off,a=some ⟨b,off,none⟩/\b<w.heap.size/\∀ i,i<ps.length->w.cell? ⟨b,off+i*2,none⟩=some (.int .i64 (ps.getD i dp).1)/\w.cell? ⟨b,off+i*2+1,none⟩=some (.int .i64 (ps.getD i dp).2))
theorem zb7 {ps:List (Int × Int)} {k:Nat} (hk:k<ps.length):ps.getD k dp ∈ ps:=by
 rw [List.getD_eq_getElem?_getD,List.getElem?_eq_getElem hk];exact List.getElem_mem hk
theorem Pls.below {w w':World} {a:Option Addr} {ps:List (Int × Int)} {B:Nat} (h:Pls w a ps) (hb:Below B w w') (hB:w.heap.size<=B):Pls w' a ps:=by
 refine ⟨h.1,fun hz=>?_⟩
 obtain ⟨b,off,rfl,hlt,hc⟩:=h.2 hz;exact ⟨b,off,rfl,Nat.lt_of_lt_of_le hlt hb.size,fun i hi=>⟨keep hb (by omega) (hc i hi).1,keep hb (by omega) (hc i hi).2⟩⟩
theorem Pls.len_pos {w:World} {a:Option Addr} {ps:List (Int × Int)} (h:Pls w a ps) (i:Nat) (hi:i<ps.length):∃ b off,a=some ⟨b,off,none⟩/\b<w.heap.size/\∀ i,i<ps.length->w.cell? ⟨b,off+i*2,none⟩=some (.int .i64 (ps.getD i dp).1)/\w.cell? ⟨b,off+i*2+1,none⟩=some (.int .i64 (ps.getD i dp).2):=h.2 (by omega)
theorem Pls.alloc {w:World} {a:Option Addr} {ps:List (Int × Int)} (h:Pls w a ps) (o:Obj):Pls (w.alloc o) a ps:=h.below ((Below.refl w.heap.size w).alloc nl o) nl
theorem z6e (ps:List (Int × Int)):(ps.flatMap pcs).length=ps.length*2:=by
 induction ps with
 | nil=>rfl
 | cons s ps ih=>rw [List.flatMap_cons,List.length_append,ih,List.length_cons];simp [pcs];omega
theorem z6c (ps:List (Int × Int)):∀ k,k<ps.length->(ps.flatMap pcs)[k*2]?=some (.int .i64 (ps.getD k dp).1)/\(ps.flatMap pcs)[k*2+1]?=some (.int .i64 (ps.getD k dp).2):=by
 induction ps with
 | nil=>intro k hk;simp at hk
 | cons s ps ih=>
  intro k hk
  cases k with
  | zero=>simp [List.flatMap_cons,pcs]
  | succ k=>
   have:=ih k (by simpa using hk)
   rw [List.flatMap_cons,show (k+1)*2=k*2+2 from by omega]
   simpa [pcs] using this
theorem zik (s:Int × Int) (ps:List (Int × Int)):∀ k,k<ps.length->((ps.flatMap pcs).set (k*2) (.int .i64 s.1)).set (k*2+1) (.int .i64 s.2)=(ps.set k s).flatMap pcs:=by
 induction ps with
 | nil=>intro k hk;simp at hk
 | cons x ps ih=>
  intro k hk
  cases k with
  | zero=>simp [List.flatMap_cons,pcs]
  | succ k=>
   have:=ih k (by simpa using hk)
   rw [List.set_cons_succ,List.flatMap_cons,List.flatMap_cons,<-this,show (k+1)*2=k*2+2 from by omega]
   simp [pcs]
def OVp (w:World) (B:Nat) (v:Value) (ps:List (Int × Int)):Prop:=w.ownsRow B 54 2 v ps.length (ps.flatMap pcs)/\∀ p ∈ ps,rP p
def OwP (w:World) (B g cap:Nat) (ps:List (Int × Int)):Prop:=OVp w B (.slice (some ⟨g,0,none⟩) ps.length cap) ps
section
variable {w w' : World} {B : Nat} {v : Value} {ps : List (Int × Int)} {g cap : Nat}
theorem OVp.nil (w:World) (B:Nat):OVp w B (.slice none 0 0) []:=⟨⟨rfl,.inl ⟨rfl,rfl⟩⟩,by simp⟩
theorem OVp.form (h:OVp w B v ps):∃ (a:Option Addr) (c:Nat),v=.slice a ps.length c:=by
 rcases h.1.2 with ⟨rfl,h0⟩ | ⟨g,cap,cur,rfl,_⟩
 ·exact ⟨none,0,by rw [h0]⟩
 ·exact ⟨_,_,rfl⟩
theorem OVp.blk (h:OVp w B v ps) {k:Nat} (hk:v.ownBlock=some k):B<=k/\k<w.heap.size:=by
 rcases h.1.2 with ⟨rfl,h0⟩ | ⟨g,cap,cur,rfl,hg,hh,_⟩
 ·simp [Value.ownBlock] at hk
 ·simp [Value.ownBlock] at hk
  subst hk;exact ⟨hg,(Array.getElem?_eq_some_iff.1 hh).1⟩
theorem OVp.stay {S:Nat->Prop} (h:OVp w B v ps) (ho:Only S w w') (hs:∀ k,v.ownBlock=some k->¬S k):OVp w' B v ps:=by
 refine ⟨⟨h.1.1,?_⟩,h.2⟩;rcases h.1.2 with h' | ⟨g,cap,cur,rfl,hg,hh,r⟩
 ·exact .inl h'
 ·exact .inr ⟨g,cap,cur,rfl,hg,(ho.block g (Array.getElem?_eq_some_iff.1 hh).1 (hs g rfl)).trans hh,r⟩
theorem OVp.below (h:OVp w B v ps) (hb:Below w.heap.size w w'):OVp w' B v ps:=h.stay (Only.ofBelow (S:=fun _=>False) hb nl) (by simp)
theorem OVp.weak {B':Nat} (h:OVp w B v ps) (hB:B'<=B):OVp w B' v ps:=by
 refine ⟨⟨h.1.1,?_⟩,h.2⟩;rcases h.1.2 with h' | ⟨g,cap,cur,h',hg,r⟩
 ·exact .inl h'
 ·exact .inr ⟨g,cap,cur,h',by omega,r⟩
theorem OwP.lt (h:OwP w B g cap ps):B<=g/\g<w.heap.size:=OVp.blk h rfl
theorem OwP.cell (h:OwP w B g cap ps) (i:Nat) (hi:i<ps.length):w.cell? ⟨g,i*2,none⟩=some (.int .i64 (ps.getD i dp).1)/\w.cell? ⟨g,i*2+1,none⟩=some (.int .i64 (ps.getD i dp).2):=by
 obtain ⟨f0,f1⟩:=z6c ps i hi;exact ⟨by rw [h.1.cellAt (i*2) (by omega),f0],by rw [h.1.cellAt (i*2+1) (by omega),f1]⟩
theorem OwP.pls (h:OwP w B g cap ps):Pls w (some ⟨g,0,none⟩) ps:=⟨h.2,fun _=>⟨g,0,rfl,h.lt.2,fun i hi=>by rw [Nat.zero_add];exact h.cell i hi⟩⟩
theorem OwP.frozen (h:OwP w B g cap ps) (i:Nat):w.frozen? ⟨g,i,none⟩=false:=h.1.frozenAt i
theorem OwP.store (h:OwP w B g cap ps) (k:Nat) (hk:k<ps.length) (p:Int × Int) (hr:rP p):OwP ((w.setCell ⟨g,k*2,none⟩ (.int .i64 p.1)).setCell ⟨g,k*2+1,none⟩ (.int .i64 p.2)) B g cap (ps.set k p):=by
 have r1:=(h.1.stored (k*2) (.int .i64 p.1)).1;have r2:=(r1.stored (k*2+1) (.int .i64 p.2)).1;rw [zik p ps k hk] at r2;refine ⟨by rw [List.length_set];exact r2,?_⟩
 intro t ht
 rcases List.mem_or_eq_of_mem_set ht with ht | rfl
 ·exact h.2 t ht
 ·exact hr
theorem OwP.other (h:OwP w B g cap ps) {p:Addr} (hp:p.block≠g) (u:Value):OwP (w.setCell p u) B g cap ps:=
 OVp.stay h ((Only.refl (fun b=>b=p.block) w).setCell (.inl rfl) u) (fun k hk e=>by
  have:g=k:=by simpa [Value.ownBlock] using hk
  exact hp (by rw [this];exact e.symm))
def MinP (w:World) (B U:Nat) (a:Option Addr) (cap:Nat) (ps:List (Int × Int)):Prop:=
 (a=none/\ps=[]/\cap=0)\/∃ g,a=some ⟨g,0,none⟩/\B<=g/\g<U/\OwP w B g cap ps
theorem OVp.mine (h:OVp w B v ps):∃ (a:Option Addr) (cp:Nat),v=.slice a ps.length cp/\MinP w B w.heap.size a cp ps:=by
 rcases h.1.2 with ⟨rfl,h0⟩ | ⟨g,cap,cur,rfl,hg,hh,r⟩
 ·exact ⟨none,0,by rw [h0],.inl ⟨rfl,List.eq_nil_of_length_eq_zero h0,rfl⟩⟩
 ·exact ⟨some ⟨g,0,none⟩,cap,rfl,.inr ⟨g,rfl,hg,(Array.getElem?_eq_some_iff.1 hh).1,h⟩⟩
variable {a : Option Addr} {U c : Nat}
theorem MinP.pls (h:MinP w B U a cap ps):Pls w a ps:=by
 rcases h with ⟨rfl,rfl,rfl⟩ | ⟨g,rfl,_,_,h⟩
 ·exact ⟨by simp,by simp⟩
 ·exact h.pls
theorem MinP.only {S:Nat->Prop} (h:MinP w B U a cap ps) (ho:Only S w w') (hs:∀ k,B<=k->k<U->¬S k):MinP w' B U a cap ps:=by
 rcases h with h | ⟨g,rfl,h1,h2,h⟩
 ·exact .inl h
 ·exact .inr ⟨g,rfl,h1,h2,OVp.stay h ho (fun k hk=>by
   have:g=k:=by simpa [Value.ownBlock] using hk
   subst this;exact hs g h1 h2)⟩
end
theorem Tryz.infoPl :(Tryz.prog.info? 54).map (fun i=>(i.zero,i.size,i.bytes))=some (some (.agg #[.int .i64 0,.int .i64 0]),2,16):=by kernel_rfl
theorem zf9 (n:Nat):(madeCells (Value.agg #[.int .i64 0,.int .i64 0]).cells (n*2)).toList=(List.replicate n dp).flatMap pcs:=by
 apply List.ext_getElem?
 intro i
 by_cases hi:i<n*2
 ·have hd:i / 2<(List.replicate n dp).length:=by simp;omega
  have hg:(List.replicate n dp).getD (i / 2) dp=dp:=by
   rw [List.getD_eq_getElem?_getD,List.getElem?_replicate];split <;> rfl
  obtain ⟨f0,f1⟩:=z6c (List.replicate n dp) (i / 2) hd;rw [hg] at f0 f1
  simp only [madeCells,Array.toList_map,Array.toList_range,List.getElem?_map,List.getElem?_range hi,Option.map_some]
  have h3:i % 2=0\/i % 2=1:=by omega
  rcases h3 with h3 | h3
  ·rw [show i / 2*2=i from by omega] at f0
   rw [f0]
   simp [Value.cells,h3,dp]
  ·rw [show i / 2*2+1=i from by omega] at f1
   rw [f1]
   simp [Value.cells,h3,dp]
 ·rw [List.getElem?_eq_none (by simp [madeCells];omega),List.getElem?_eq_none (by rw [z6e];simp;omega)]
theorem zn9 :rP dp:=by unfold rP dp;simp
theorem OwP.made {w1:World} {B g n:Nat} (h:w1.ownsRow B 54 2 (.slice (some ⟨g,0,none⟩) n n) n (madeCells (Value.agg #[.int .i64 0,.int .i64 0]).cells (n*2)).toList):OwP w1 B g n (List.replicate n dp):=by
 refine ⟨?_,fun p hp=>?_⟩
 ·rw [zf9] at h
  simpa using h
 ·rw [(List.mem_replicate.1 hp).2]
  exact zn9
def nwh (p:Int × Int):Bool:=p.1 == 0 && p.2 == 0
def rgt (p:Int × Int):Bool:=decide (2<=p.1/\p.1<=23/\0<=p.2/\p.2<=15)
def tkn (ps:List (Int × Int)) (p:Int × Int):Nat->Bool
 | 0=>false
 | k+1=>tkn ps p k || (ps.getD k dp == p)
def z14 (ps:List (Int × Int)) (i:Nat):Bool:=nwh (ps.getD i dp) || (rgt (ps.getD i dp) && !tkn ps (ps.getD i dp) i)
def okT (ps:List (Int × Int)):Nat->Bool
 | 0=>true
 | k+1=>okT ps k && z14 ps k
def z0g (ps:List (Int × Int)):Bool:=decide (1<=ps.length/\ps.length<=16) && okT ps ps.length
theorem zpw (ps:List (Int × Int)) (n k:Nat) (h:okT ps n=true) (hk:k<=n):okT ps k=true:=by
 induction n with
 | zero => obtain rfl : k = 0 := by omega
           exact h
 | succ n ih=>
  simp only [okT,Bool.and_eq_true] at h
  rcases Nat.lt_or_ge k (n+1) with hk' | hk'
  ·exact ih h.1 (by omega)
  ·obtain rfl:k=n+1:=by omega
   simp only [okT,Bool.and_eq_true];exact h
theorem zq8 (ps:List (Int × Int)) (n k:Nat) (h:z14 ps k=false) (hk:k<n):okT ps n=false:=by
 cases hh:okT ps n
 ·rfl
 ·have:=zpw ps n (k+1) hh (by omega)
  simp only [okT,h,Bool.and_false] at this
  cases this
theorem zoz (ps:List (Int × Int)) (k:Nat) (h:z14 ps k=false) (hk:k<ps.length):z0g ps=false:=by
 unfold z0g;rw [zq8 ps _ k h hk,Bool.and_false]
theorem zhj (ps:List (Int × Int)) (h:¬(1<=ps.length/\ps.length<=16)):z0g ps=false:=by
 unfold z0g;rw [decide_eq_false h,Bool.false_and]
theorem zkq (ps:List (Int × Int)) (h:1<=ps.length/\ps.length<=16) (h2:okT ps ps.length=true):z0g ps=true:=by
 unfold z0g;rw [decide_eq_true h,h2];rfl
theorem ze9 (ps:List (Int × Int)) (h:z0g ps=true):1<=ps.length/\ps.length<=16:=by
 unfold z0g at h
 simp only [Bool.and_eq_true,decide_eq_true_eq] at h
 exact h.1
theorem znm (ps:List (Int × Int)) (p:Int × Int) (k:Nat):tkn ps p k=true↔∃ i,i<k/\ps.getD i dp=p:=by
 induction k with
 | zero=>simp [tkn]
 | succ k ih=>
  simp only [tkn,Bool.or_eq_true,ih,beq_iff_eq]
  constructor
  ·rintro (⟨i,hi,h⟩ | h)
   ·exact ⟨i,by omega,h⟩
   ·exact ⟨k,by omega,h⟩
  ·rintro ⟨i,hi,h⟩
   rcases Nat.lt_or_ge i k with h' | h'
   ·exact .inl ⟨i,h',h⟩
   ·obtain rfl:i=k:=by omega
    exact .inr h
set_option linter.unusedSimpArgs false
def bts (ps:List (Int × Int)):List Int:=ps.flatMap (fun p=>[p.1,p.2])
def sbH (e:Int) (n:Nat):List Int:=[83,e / 256,e % 256,n]
def zro (e:Int) (ps:List (Int × Int)):List Int:=sbH e ps.length++bts ps++List.replicate (252-ps.length*2) 0
def bP (p:Int × Int):Prop:=(0<=p.1/\p.1<=255)/\(0<=p.2/\p.2<=255)
theorem Dr.drew1 {w0 w:World} {B R:Nat} {a:Option Addr} {bs:List Int} {cap:Nat} (h:Dr w0 w B R a bs cap):Dr w0 w.drew B R a bs cap:=h.other (S:=fun _=>False) (Only.drew (Only.refl _ w)) (by simp) (by simp)
structure DM (w0 w W:World) (B R X g n:Nat) (a:Option Addr) (bs:List Int) (cap:Nat):Prop where
 dr:Dr w0 W B R a bs cap
 only:Only (fun k=>k=R) w W
 row:∃ ps,OwP W w.heap.size g n ps/\ps.length=n/\∀ p ∈ ps,bP p
 box:W.cell? ⟨X,0,none⟩=some (.slice (some ⟨g,0,none⟩) n n)
 fz:W.frozen? ⟨X,0,none⟩=false
 res:W.cell? ⟨w.heap.size,0,none⟩=some (.slice none 0 0)
 rfz:W.frozen? ⟨w.heap.size,0,none⟩=false
 ne:w.heap.size<X/\X<W.heap.size/\X≠g/\w.heap.size≠g/\R<w.heap.size/\B<=R
section
variable {w0 w W W' : World} {B R X g n : Nat} {a : Option Addr} {bs : List Int} {cap : Nat}
theorem z1p {S:Nat->Prop} {w w':World} (h:Only S w w') {b o:Nat} (hb:b<w.heap.size) (hs:¬S b):w'.frozen? ⟨b,o,none⟩=w.frozen? ⟨b,o,none⟩:=by
 simp only [World.frozen?,h.block b hb hs]
theorem DM.turn {S:Nat->Prop} (h:DM w0 w W B R X g n a bs cap) (hd:Dr w0 W' B R a bs cap) (ho:Only S W W') (hw:Only (fun k=>k=R) w W') (hr:∃ ps,OwP W' w.heap.size g n ps/\ps.length=n/\∀ p ∈ ps,bP p) (hX:¬S X) (hN:¬S w.heap.size):DM w0 w W' B R X g n a bs cap:=by
 have hn:=h.ne;have hs:=ho.size;exact ⟨hd,hw,hr,ho.cell (by omega) hX h.box,(z1p ho (by omega) hX).trans h.fz,ho.cell (by omega) hN h.res,(z1p ho (by omega) hN).trans h.rfz,by omega⟩
theorem DM.cur (h:DM w0 w W B R X g n a bs cap) (hd:Dr w0 W' B R a bs cap) (ho:Only (fun k=>k=R) W W'):DM w0 w W' B R X g n a bs cap:=by
 have hn:=h.ne;obtain ⟨ps,h1,h2,h3⟩:=h.row;refine h.turn hd ho (h.only.trans ho) ⟨ps,OVp.stay h1 ho (fun k hk e=>?_),h2,h3⟩ (by omega) (by omega)
 have:=h1.lt;have e2:g=k:=by simpa [Value.ownBlock] using hk
 omega
theorem DM.drew (h:DM w0 w W B R X g n a bs cap) (m:Nat):DM w0 w (W.drewN m) B R X g n a bs cap:=h.cur (h.dr.other (S:=fun _=>False) ((Only.refl _ W).drewN m) (by simp) (by simp)) ((Only.refl _ W).drewN m)
theorem DM.store (h:DM w0 w W B R X g n a bs cap) (k:Nat) (hk:k<n) (x y:Int) (hb:bP (x,y)):DM w0 w ((W.setCell ⟨g,k*2,none⟩ (.int .i64 x)).setCell ⟨g,k*2+1,none⟩ (.int .i64 y)) B R X g n a bs cap:=by
 have hn:=h.ne;obtain ⟨ps,h1,h2,h3⟩:=h.row;have hg:=h1.lt;have ho:Only (fun b=>b=g) W ((W.setCell ⟨g,k*2,none⟩ (.int .i64 x)).setCell ⟨g,k*2+1,none⟩ (.int .i64 y)):=((Only.refl (fun b=>b=g) W).setCell (p:=⟨g,k*2,none⟩) (.inl rfl) _).setCell (p:=⟨g,k*2+1,none⟩) (.inl rfl) _
 refine h.turn (h.dr.other ho (by omega) (fun b hb=>by omega)) ho ((h.only.setCell (p:=⟨g,k*2,none⟩) (.inr hg.1) _).setCell (p:=⟨g,k*2+1,none⟩) (.inr hg.1) _) ⟨ps.set k (x,y),?_,by simpa using h2,fun p hp=>?_⟩ (by omega) (by omega)
 ·exact h1.store k (by omega) (x,y) ⟨by have:=hb.1;simp only at *;omega,by have:=hb.2;simp only at *;omega⟩
 ·rcases List.mem_or_eq_of_mem_set hp with hp | rfl
  ·exact h3 p hp
  ·exact hb
theorem DM.cells (h:DM w0 w W B R X g n a bs cap) (k:Nat) (hk:k<n):∃ x y,W.cell? ⟨g,k*2,none⟩=some (.int .i64 x)/\W.cell? ⟨g,k*2+1,none⟩=some (.int .i64 y)/\W.frozen? ⟨g,k*2,none⟩=false/\W.frozen? ⟨g,k*2+1,none⟩=false:=by
 obtain ⟨ps,h1,h2,h3⟩:=h.row;exact ⟨_,_,(h1.cell k (by omega)).1,(h1.cell k (by omega)).2,h1.frozen _,h1.frozen _⟩
end
theorem Dr.map {w0 w:World} {B R:Nat} {a:Option Addr} {bs:List Int} {cap:Nat} (h:Dr w0 w B R a bs cap) :
  Calls Tryz.prog 72 #[.pointer (some ⟨R,0,none⟩)] w fun e w'=>∃ (g:Nat) (ps:List (Int × Int)),e=.returned (.agg #[.slice (some ⟨g,0,none⟩) ps.length ps.length])/\1<=ps.length/\ps.length<=9/\(∀ p ∈ ps,bP p)/\OwP w' w.heap.size g ps.length ps/\Dr w0 w' B R a bs cap/\Only (fun k=>k=R) w w':=by
 obtain ⟨i0,hi,hz0,hz1,hz2⟩:=info_parts Tryz.infoPl;have hRB:=h.cur.lt;have e1:(w.alloc (Obj.cells #[.slice none 0 0] 46)).heap.size=w.heap.size+1:=by simp
 have HR0:Hid (Dr w0 (w.alloc (Obj.cells #[.slice none 0 0] 46)) B R a bs cap/\Only (fun k=>k=R) w (w.alloc (Obj.cells #[.slice none 0 0] 46))/\(w.alloc (Obj.cells #[.slice none 0 0] 46)).cell? ⟨w.heap.size,0,none⟩=some (.slice none 0 0)/\(w.alloc (Obj.cells #[.slice none 0 0] 46)).frozen? ⟨w.heap.size,0,none⟩=false/\(w.alloc (Obj.cells #[.slice none 0 0] 46)).heap.size=w.heap.size+1):=
  ⟨h.other (S:=fun _=>False) ((Only.refl _ w).alloc _) (by simp) (by simp),(Only.refl _ w).alloc _,by simp,by simp,e1⟩
 clear h e1
 go_enter Tryz.func72,Tryz.ntmps72
 go_wp2_with fail
 generalize w.alloc (Obj.cells #[.slice none 0 0] 46)=W0 at *;refine (HR0.out.1.below 9 (by omega) (by omega)).mono ?_
 rintro e w1 ⟨⟨N,hN1,hN2,rfl⟩,hd,ho⟩;obtain ⟨n,rfl⟩:=Int.eq_ofNat_of_zero_le hN1;have hs1:w.heap.size<w1.heap.size:=by have:=ho.size;have:=HR0.out.2.2.2.2;omega
 have HD1:Hid (Dr w0 w1 B R a bs cap/\Only (fun k=>k=R) w w1/\w1.cell? ⟨w.heap.size,0,none⟩=some (.slice none 0 0)/\w1.frozen? ⟨w.heap.size,0,none⟩=false):=by
  have h5:=HR0.out.2.2.2.2;exact ⟨hd,HR0.out.2.1.trans ho,ho.cell (by omega) (by omega) HR0.out.2.2.1,(z1p ho (by omega) (by omega)).trans HR0.out.2.2.2.1⟩
 clear hd ho HR0 hN1;have e1:(1:Int)+(n:Nat)=((1+n:Nat):Int):=by simp
 have hn1:1+n<=9:=by omega
 have hn2:1<=1+n:=by omega
 clear hN2;generalize 1+n=m at *;go_wp2_with (at_make;refine wpList_make_full _ rfl _ _ 44 rfl w.heap.size 54 i0 (.agg #[.int .i64 0,.int .i64 0]) 2 Tryz.underlying44 hi hz0 hz1 .i64 .i64 _ _ m (by simp [Act.eval];try omega) rfl rfl rfl (by rw [hz2];omega) (by unfold maxLen;omega) (Nat.le_of_lt hs1) ?_;intro w2 hown hgrow)
 have honly2:Only (fun _=>False) w1 w2:=Only.grown (Only.refl _ w1) hgrow (fun k hk=>by cases hk)
 have hmade:=OwP.made hown;have HM2:Hid (DM w0 w (w2.alloc (Obj.cells #[.slice (some ⟨w1.heap.size,0,none⟩) m m] 46)) B R w2.heap.size w1.heap.size m a bs cap):=by
  have h1:=HD1.out;have hsz:=honly2.size;have hgl:=hmade.lt;have hoa:Only (fun _=>False) w2 (w2.alloc (Obj.cells #[.slice (some ⟨w1.heap.size,0,none⟩) m m] 46)):=(Only.refl _ w2).alloc _
  have ho12:=honly2.trans hoa;refine ⟨h1.1.other ho12 (by simp) (by simp),h1.2.1.trans (ho12.mono (by simp)),⟨List.replicate m dp,OVp.stay hmade hoa (by simp),by simp,fun p hp=>?_⟩,by simp,by simp,ho12.cell hs1 (by simp) h1.2.2.1,(z1p ho12 hs1 (by simp)).trans h1.2.2.2,by simp;omega⟩
  rw [(List.mem_replicate.1 hp).2];unfold bP dp
  simp
 clear hown hgrow honly2 hmade hi hz0 hz1 hz2 HD1 e1;generalize w2.alloc (Obj.cells #[.slice (some ⟨w1.heap.size,0,none⟩) m m] 46)=W2 at *;generalize w2.heap.size=X at *;generalize w1.heap.size=g at *
 go_loopw [4] (fun i wr=>∃ k:Nat,k<=m/\i=.int .i64 k/\DM w0 w wr B R X g m a bs cap) (fun i _=>m-(intOf i).toNat)
 case atStart=>exact ⟨0,Nat.zero_le _,rfl,HM2.out⟩
 case round=>
  clear HM2;obtain ⟨k,hk,rfl,hm⟩:=hrel;have HM0:Hid (DM w0 w wr B R X g m a bs cap):=hm;have b0:=hm.box;clear hm
  by_cases hlt:k<m
  ·go_wp2_with fail
   refine (HM0.out.dr.once 3 (by omega) (by omega)).mono ?_
   rintro e w3 ⟨⟨bb,rfl⟩,hd3,ho3⟩;have HM:Hid (DM w0 w w3 B R X g m a bs cap):=HM0.out.cur hd3 ho3;clear hd3 ho3 HM0 b0
   cases bb with
   | true=>
    go_wp2
    go_roundw
    case rel=>exact ⟨k+1,by omega,by go_num,HM.out⟩
    case measure=>simp [intOf];omega
   | false=>
    have b3:=HM.out.box;have hk4:k<m:=hlt;go_wp2;refine zj (S:=fun W=>W.cell? ⟨X,0,none⟩=some (.slice (some ⟨g,0,none⟩) m m)) 10 (by kernel_rfl) (by kernel_rfl) (by exact b3) (fun hHeld=>?_)
    refine wpAnyH_take (i:=0) (v:=?_) rfl (by kernel_rfl) (by kernel_rfl) (by kernel_rfl) (fun _ _ _ h=>h) (Or.inl ⟨by rfl,?_⟩) (by assumption) ?_
    rotate_left
    ·(intro w hSw;(try dsimp only at hSw);go_simp;try (with_reducible rfl))
    try simp only [List.getElem_toArray,List.getElem_cons_zero,List.getElem_cons_succ,Act.put,List.setIfInBounds_toArray,List.set_cons_zero,List.set_cons_succ]
    refine wpAnyH_take (i:=1) (v:=?_) rfl (by kernel_rfl) (by kernel_rfl) (by kernel_rfl) (fun _ _ _ h=>h) (Or.inl ⟨by rfl,?_⟩) (by assumption) ?_
    rotate_left
    ·(intro w hSw;(try dsimp only at hSw);go_simp;try (with_reducible rfl))
    try simp only [List.getElem_toArray,List.getElem_cons_zero,List.getElem_cons_succ,Act.put,List.setIfInBounds_toArray,List.set_cons_zero,List.set_cons_succ]
    refine wpAnyH_take (i:=2) (v:=?_) rfl (by kernel_rfl) (by kernel_rfl) (by kernel_rfl) (fun _ _ _ h=>h) (Or.inl ⟨by rfl,?_⟩) (by assumption) ?_
    rotate_left
    ·(intro w hSw;(try dsimp only at hSw);go_simp;try (with_reducible rfl))
    try simp only [List.getElem_toArray,List.getElem_cons_zero,List.getElem_cons_succ,Act.put,List.setIfInBounds_toArray,List.set_cons_zero,List.set_cons_succ]
    refine wpAnyH_take (i:=3) (v:=?_) rfl (by kernel_rfl) (by kernel_rfl) (by kernel_rfl) (fun _ _ _ h=>h) (Or.inl ⟨by rfl,?_⟩) (by assumption) ?_
    rotate_left
    ·(intro w hSw;(try dsimp only at hSw);go_simp;try (with_reducible rfl))
    try simp only [List.getElem_toArray,List.getElem_cons_zero,List.getElem_cons_succ,Act.put,List.setIfInBounds_toArray,List.set_cons_zero,List.set_cons_succ]
    refine wpAnyH_take (i:=6) (v:=?_) rfl (by kernel_rfl) (by kernel_rfl) (by kernel_rfl) (fun _ _ _ h=>h) (Or.inl ⟨by rfl,?_⟩) (by assumption) ?_
    rotate_left
    ·(intro w hSw;(try dsimp only at hSw);go_simp;try (with_reducible rfl))
    try simp only [List.getElem_toArray,List.getElem_cons_zero,List.getElem_cons_succ,Act.put,List.setIfInBounds_toArray,List.set_cons_zero,List.set_cons_succ]
    refine wpAnyH_take (i:=7) (v:=?_) rfl (by kernel_rfl) (by kernel_rfl) (by kernel_rfl) (fun _ _ _ h=>h) (Or.inl ⟨by rfl,?_⟩) (by assumption) ?_
    rotate_left
    ·(intro w hSw;(try dsimp only at hSw);go_simp;try (with_reducible rfl))
    try simp only [List.getElem_toArray,List.getElem_cons_zero,List.getElem_cons_succ,Act.put,List.setIfInBounds_toArray,List.set_cons_zero,List.set_cons_succ]
    refine wpAnyH_ready (rs:=[4]) (by kernel_rfl) (by simp) ?_
    refine AllReadyH.cons rfl (fun K hK=>?_) AllReadyH.nil
    go_simp
    refine (HM.out.dr.drew1.below 5 (by omega) (by omega)).mono ?_
    rintro e w4 ⟨⟨x,hx1,hx2,rfl⟩,hd4,ho4⟩;have HM4:Hid (DM w0 w w4 B R X g m a bs cap):=HM.out.cur hd4 ((Only.drew (Only.refl _ _)).trans ho4);have b4:=HM4.out.box;clear hd4 ho4
    dsimp only
    refine hK.out _ _ (by exact b4) (fun hHeld=>?_)
    clear hK K
    try simp only [List.getElem_toArray,List.getElem_cons_zero,List.getElem_cons_succ,Act.put,List.setIfInBounds_toArray,List.set_cons_zero,List.set_cons_succ]
    refine wpAnyH_take (i:=5) (v:=?_) rfl (by kernel_rfl) (by kernel_rfl) (by kernel_rfl) (fun _ _ _ h=>h) (Or.inl ⟨by rfl,?_⟩) (by assumption) ?_
    rotate_left
    ·(intro w hSw;(try dsimp only at hSw);go_simp;try (with_reducible rfl))
    try simp only [List.getElem_toArray,List.getElem_cons_zero,List.getElem_cons_succ,Act.put,List.setIfInBounds_toArray,List.set_cons_zero,List.set_cons_succ]
    refine wpAnyH_take (i:=8) (v:=?_) rfl (by kernel_rfl) (by kernel_rfl) (by kernel_rfl) (fun _ _ _ h=>h) (Or.inl ⟨by rfl,?_⟩) (by assumption) ?_
    rotate_left
    ·(intro w hSw;(try dsimp only at hSw);go_simp;try (with_reducible rfl))
    try simp only [List.getElem_toArray,List.getElem_cons_zero,List.getElem_cons_succ,Act.put,List.setIfInBounds_toArray,List.set_cons_zero,List.set_cons_succ]
    refine wpAnyH_take (i:=9) (v:=?_) rfl (by kernel_rfl) (by kernel_rfl) (by kernel_rfl) (fun _ _ _ h=>h) (Or.inl ⟨by rfl,?_⟩) (by assumption) ?_
    rotate_left
    ·(intro w hSw;(try dsimp only at hSw);go_simp;try (with_reducible rfl))
    try simp only [List.getElem_toArray,List.getElem_cons_zero,List.getElem_cons_succ,Act.put,List.setIfInBounds_toArray,List.set_cons_zero,List.set_cons_succ]
    refine wpAnyH_done (by kernel_rfl) ?_ _
    simp only [z0d,List.drop_succ_cons,List.drop_zero]
    have HST:Hid (DM w0 w ((w4.setCell ⟨g,k*2,none⟩ (.int .i64 (2+x))).setCell ⟨g,k*2+1,none⟩ (.int .i64 ((k:Int) % 4))) B R X g m a bs cap):=HM4.out.store k hlt (2+x) ((k:Int) % 4) ⟨⟨by simp only;omega,by simp only;omega⟩,by simp only;omega,by simp only;omega⟩
    obtain ⟨ox,oy,q0,q1,z0,z1⟩:=HM4.out.cells k hlt;clear hHeld HM4 HM;go_wp2;go_roundw
    case rel=>exact ⟨k+1,by omega,by go_num,HST.out⟩
    case measure=>simp [intOf];omega
  ·have HMA:Hid (DM w0 w wr B R X g m a bs cap):=HM0.out
   clear hk HM0;go_wp2
   go_loopw [5] (fun i wv=>∃ k:Nat,k<=m/\i=.int .i64 k/\DM w0 w wv B R X g m a bs cap) (fun i _=>m-(intOf i).toNat)
   case atStart=>exact ⟨0,Nat.zero_le _,rfl,HMA.out⟩
   case round=>
    clear HMA b0;obtain ⟨k2,hk2,rfl,hm2⟩:=hrel;have HM0:Hid (DM w0 w wr B R X g m a bs cap):=hm2;have b0:=hm2.box;clear hm2
    by_cases hlt2:k2<m
    ·go_wp2
     clear b0
     go_loopw [6] (fun i wv=>∃ j:Nat,j<=k2/\i=.int .i64 j/\DM w0 w wv B R X g m a bs cap) (fun i _=>k2-(intOf i).toNat)
     case atStart=>exact ⟨0,Nat.zero_le _,rfl,HM0.out⟩
     case round=>
      clear HM0;obtain ⟨j,hj,rfl,hm3⟩:=hrel;have HM0:Hid (DM w0 w wr B R X g m a bs cap):=hm3;have b0:=hm3.box;clear hm3
      by_cases hlt3:j<k2
      ·obtain ⟨x1,y1,p0,p1,z0,z1⟩:=HM0.out.cells j (by omega)
       obtain ⟨x2,y2,q0,q1,f0,f1⟩:=HM0.out.cells k2 hlt2;have hjm:j<m:=by omega
       by_cases he:x1=x2/\y1=y2
       ·obtain ⟨rfl,rfl⟩:=he
        have HST:Hid (∀ c,DM w0 w (((wr.drewN c).setCell ⟨g,k2*2,none⟩ (.int .i64 0)).setCell ⟨g,k2*2+1,none⟩ (.int .i64 0)) B R X g m a bs cap):=fun c=>(HM0.out.drew c).store k2 hlt2 0 0 ⟨⟨by simp,by simp⟩,by simp,by simp⟩
        clear HM0 z0 z1;go_wp2
        go_quiet (fail)
        go_wp2
        go_roundw
        case rel=>exact ⟨j+1,by omega,by go_num,HST.out _⟩
        case measure=>simp [intOf];omega
       ·have hc:x1≠x2\/(x1=x2/\y1≠y2):=by omega
        have HST:Hid (∀ c,DM w0 w (wr.drewN c) B R X g m a bs cap):=fun c=>HM0.out.drew c
        clear HM0 z0 z1 f0 f1 he;rcases hc with hc | ⟨rfl,hc⟩
        all_goals
         go_wp2
         go_quiet (fail)
         go_wp2
         go_roundw
         case rel=>exact ⟨j+1,by omega,by go_num,HST.out _⟩
         case measure=>simp [intOf];omega
      ·go_wp2
       go_roundw
       case rel=>exact ⟨k2+1,by omega,by go_num,HM0.out⟩
       case measure=>simp [intOf];omega
    ·obtain ⟨ps,o1,o2,o3⟩:=HM0.out.row
     have hn:=HM0.out.ne;have r0:=HM0.out.res;have rz:=HM0.out.rfz;have hgl:=o1.lt;have hon:Only (fun b=>b=w.heap.size) wr (wr.setCell ⟨w.heap.size,0,none⟩ (.slice (some ⟨g,0,none⟩) m m)):=(Only.refl (fun b=>b=w.heap.size) wr).setCell (p:=⟨w.heap.size,0,none⟩) (.inl rfl) _
     have HF:Hid (OwP (wr.setCell ⟨w.heap.size,0,none⟩ (.slice (some ⟨g,0,none⟩) m m)) w.heap.size g m ps/\ps.length=m/\(∀ p ∈ ps,bP p)/\Dr w0 (wr.setCell ⟨w.heap.size,0,none⟩ (.slice (some ⟨g,0,none⟩) m m)) B R a bs cap/\Only (fun k=>k=R) w (wr.setCell ⟨w.heap.size,0,none⟩ (.slice (some ⟨g,0,none⟩) m m))):=
      ⟨OwP.other o1 (p:=⟨w.heap.size,0,none⟩) (by simp only;omega) _,o2,o3,HM0.out.dr.other hon (by omega) (fun k hk=>by omega),HM0.out.only.setCell (p:=⟨w.heap.size,0,none⟩) (.inr nl) _⟩
     have hXn:¬X=w.heap.size:=by omega
     clear hon o1 o2 o3 HM0;go_wp2;refine bodyPost_ret (v:=.agg #[.slice (some ⟨g,0,none⟩) m m]) (by simp [results,Tryz.results72,go_sem,r0]) rfl ⟨g,ps,by rw [HF.out.2.1],by rw [HF.out.2.1];exact hn2,by rw [HF.out.2.1];exact hn1,HF.out.2.2.1,by rw [HF.out.2.1];exact HF.out.1,HF.out.2.2.2.1,HF.out.2.2.2.2⟩
def pl2 (ys:List Int):Nat->List (Int × Int)
 | 0=>[]
 | k+1=>pl2 ys k++[(ys.getD (2*k) 0,ys.getD (2*k+1) 0)]
theorem zdp (W:World) (T:TypeId) (zs:List Int) (hr:∀ z ∈ zs,-9223372036854775808<=z/\z<=9223372036854775807):Ins (W.alloc (.cells (zs.map (Value.int .i64)).toArray T)) (some ⟨W.heap.size,0,none⟩) zs:=by
 refine ⟨hr,fun hp=>⟨W.heap.size,0,rfl,by simp,fun i hi=>?_⟩⟩
 rw [Nat.zero_add,cell_of_row _ W.heap.size i _ T (0,0) (heap_alloc_new W _)]
 simp [hi]
theorem zko (W:World) (T:TypeId):Ins (W.alloc (.cells #[.int .i64 0,.int .i64 1,.int .i64 2,.int .i64 23,.int .i64 24] T)) (some ⟨W.heap.size,0,none⟩) [0,1,2,23,24]:=by
 have:=zdp W T [0,1,2,23,24] (by intro z hz;simp at hz;omega)
 simpa using this
theorem zme (W:World) (T:TypeId):Ins (W.alloc (.cells #[.int .i64 0,.int .i64 15,.int .i64 16,.int .i64 (-1)] T)) (some ⟨W.heap.size,0,none⟩) [0,15,16,-1]:=by
 have:=zdp W T [0,15,16,-1] (by intro z hz;simp at hz;omega)
 simpa using this
theorem zd3 {S:Nat->Prop} {W W':World} {b o:Nat} {zs:List Int} (h:Ins W (some ⟨b,o,none⟩) zs) (ho:Only S W W') (hb:¬S b):Ins W' (some ⟨b,o,none⟩) zs:=by
 refine ⟨h.1,fun hp=>?_⟩
 obtain ⟨b',o',e,hl,hc⟩:=h.2 hp;obtain ⟨rfl,rfl⟩:b=b'/\o=o':=by simpa using e
 exact ⟨b,o,rfl,Nat.lt_of_lt_of_le hl ho.size,fun i hi=>ho.cell hl hb (hc i hi)⟩
structure DN (w0 w W:World) (B R X:Nat) (a:Option Addr) (bs:List Int) (cap:Nat) (v:Value) (ps:List (Int × Int)):Prop where
 dr:Dr w0 W B R a bs cap
 only:Only (fun k=>k=R) w W
 own:OVp W w.heap.size v ps
 apart:∀ k,v.ownBlock=some k->k≠X/\k≠w.heap.size
 box:W.cell? ⟨X,0,none⟩=some v
 fz:W.frozen? ⟨X,0,none⟩=false
 res:W.cell? ⟨w.heap.size,0,none⟩=some (.slice none 0 0)
 rfz:W.frozen? ⟨w.heap.size,0,none⟩=false
 ne:w.heap.size<X/\X<W.heap.size/\R<w.heap.size/\B<=R
 len:ps.length<=20
section
variable {w0 w W W' : World} {B R X : Nat} {a : Option Addr} {bs : List Int} {cap : Nat} {v : Value} {ps : List (Int × Int)}
theorem DN.rlt (h:DN w0 w W B R X a bs cap v ps):R<W.heap.size/\w.heap.size<=W.heap.size:=by have:=h.ne;omega
theorem DN.still {S:Nat->Prop} (h:DN w0 w W B R X a bs cap v ps) (hd:Dr w0 W' B R a bs cap) (ho:Only S W W') (hS:∀ k,w.heap.size<=k->¬S k) (hw:Only (fun k=>k=R) w W'):DN w0 w W' B R X a bs cap v ps:=by
 have hn:=h.ne;have hs:=ho.size;exact ⟨hd,hw,OVp.stay h.own ho (fun k hk=>hS k (h.own.blk hk).1),h.apart,ho.cell (by omega) (hS X (by omega)) h.box,(z1p ho (by omega) (hS X (by omega))).trans h.fz,ho.cell (by omega) (hS _ nl) h.res,(z1p ho (by omega) (hS _ nl)).trans h.rfz,by omega,h.len⟩
theorem DN.cur (h:DN w0 w W B R X a bs cap v ps) (hd:Dr w0 W' B R a bs cap) (ho:Only (fun k=>k=R) W W'):DN w0 w W' B R X a bs cap v ps:=
 h.still hd ho (fun k hk e=>by have:=h.ne;omega) (h.only.trans ho)
theorem DN.al (h:DN w0 w W B R X a bs cap v ps) (o:Obj):DN w0 w (W.alloc o) B R X a bs cap v ps:=
 h.still (S:=fun _=>False) (h.dr.other (S:=fun _=>False) ((Only.refl _ W).alloc o) (by simp) (by simp)) ((Only.refl _ W).alloc o) (by simp) (h.only.alloc o)
theorem DN.drew (h:DN w0 w W B R X a bs cap v ps):DN w0 w W.drew B R X a bs cap v ps:=
 h.still (S:=fun _=>False) (h.dr.other (S:=fun _=>False) (Only.drew (Only.refl _ W)) (by simp) (by simp)) (Only.drew (Only.refl _ W)) (by simp) h.only.drew
theorem DN.setBox {v':Value} {ps':List (Int × Int)} (h:DN w0 w W B R X a bs cap v ps) (ho:OVp W w.heap.size v' ps') (hap:∀ k,v'.ownBlock=some k->k≠X/\k≠w.heap.size) (hl:ps'.length<=20):DN w0 w (W.setCell ⟨X,0,none⟩ v') B R X a bs cap v' ps':=by
 have hn:=h.ne;have hon:Only (fun b=>b=X) W (W.setCell ⟨X,0,none⟩ v'):=(Only.refl (fun b=>b=X) W).setCell (p:=⟨X,0,none⟩) (.inl rfl) _
 have hs:=hon.size;exact ⟨h.dr.other hon (by omega) (fun k hk=>by omega),h.only.setCell (p:=⟨X,0,none⟩) (.inr (by simp only;omega)) _,OVp.stay ho hon (fun k hk e=>(hap k hk).1 e),hap,World.cell?_setCell_same _ _ _ h.box,by simp [h.fz],hon.cell (by omega) (by omega) h.res,(z1p hon (by omega) (by omega)).trans h.rfz,by omega,hl⟩
theorem DN.put0 {g:Nat} (h:DN w0 w W B R X a bs cap v ps) (hv:v=.slice (some ⟨g,0,none⟩) ps.length ps.length) (hl:0<ps.length) (x y:Int) (hr:rP (x,y)) :
  DN w0 w ((W.setCell ⟨g,0,none⟩ (.int .i64 x)).setCell ⟨g,1,none⟩ (.int .i64 y)) B R X a bs cap v (ps.set 0 (x,y))/\∃ ox oy,W.cell? ⟨g,0,none⟩=some (.int .i64 ox)/\W.cell? ⟨g,1,none⟩=some (.int .i64 oy)/\W.frozen? ⟨g,0,none⟩=false/\W.frozen? ⟨g,1,none⟩=false:=by
 subst hv;have hn:=h.ne;have hg:=h.own.blk (k:=g) rfl;have hap:=h.apart g rfl;have how:OwP W w.heap.size g ps.length ps:=h.own;have hst:=how.store 0 hl (x,y) hr;have hc:=how.cell 0 hl;have hon:Only (fun b=>b=g) W ((W.setCell ⟨g,0,none⟩ (.int .i64 x)).setCell ⟨g,1,none⟩ (.int .i64 y)):=((Only.refl (fun b=>b=g) W).setCell (p:=⟨g,0,none⟩) (.inl rfl) _).setCell (p:=⟨g,1,none⟩) (.inl rfl) _
 have hs:=hon.size;have hlen:(ps.set 0 (x,y)).length=ps.length:=by simp
 refine ⟨⟨h.dr.other hon (by omega) (fun k hk=>by omega),(h.only.setCell (p:=⟨g,0,none⟩) (.inr hg.1) _).setCell (p:=⟨g,1,none⟩) (.inr hg.1) _,?_,h.apart,hon.cell (by omega) (by omega) h.box,(z1p hon (by omega) (by omega)).trans h.fz,hon.cell (by omega) (by omega) h.res,(z1p hon (by omega) (by omega)).trans h.rfz,by omega,by rw [hlen];exact h.len⟩,_,_,hc.1,hc.2,how.frozen 0,how.frozen 1⟩
 have h9:OVp ((W.setCell ⟨g,0*2,none⟩ (.int .i64 x)).setCell ⟨g,0*2+1,none⟩ (.int .i64 y)) w.heap.size (.slice (some ⟨g,0,none⟩) (ps.set 0 (x,y)).length ps.length) (ps.set 0 (x,y)):=hst;rw [hlen] at h9
 simpa using h9
theorem DN.app {g:Nat} {o:Obj} {v1:Value} {w5:World} {q:Int × Int} (h:DN w0 w W B R X a bs cap (.slice (some ⟨g,0,none⟩) ps.length ps.length) ps) (ho:OVp w5 w.heap.size v1 (ps++[q])) (hg:(W.alloc o).grownBy w5 (some g)) (hloc:v1.ownBlock=some g\/v1.ownBlock=some (W.heap.size+1)) (hl:ps.length<=19) :
  w5.cell? ⟨X,0,none⟩=some (.slice (some ⟨g,0,none⟩) ps.length ps.length)/\w5.frozen? ⟨X,0,none⟩=false/\DN w0 w (w5.setCell ⟨X,0,none⟩ v1) B R X a bs cap v1 (ps++[q]):=by
 have hn:=h.ne;have hgb:=h.own.blk (k:=g) rfl;have hap:=h.apart g rfl;have hon:Only (fun k=>k=g) W w5:=((Only.refl (fun k=>k=g) W).alloc o).grown hg (fun k hk=>.inl (by simpa using hk.symm))
 have hs:=hon.size;have bx:w5.cell? ⟨X,0,none⟩=some (.slice (some ⟨g,0,none⟩) ps.length ps.length):=hon.cell (by omega) (by omega) h.box
 have fx:w5.frozen? ⟨X,0,none⟩=false:=(z1p hon (by omega) (by omega)).trans h.fz
 have hap1:∀ k,v1.ownBlock=some k->k≠X/\k≠w.heap.size:=by
  intro k hk
  rcases hloc with h1 | h1
  ·rw [h1] at hk
   have e:g=k:=by simpa using hk
   rw [<-e];exact hap
  ·rw [h1] at hk
   have e:W.heap.size+1=k:=by simpa using hk
   omega
 have hon2:Only (fun k=>k=g\/k=X) W (w5.setCell ⟨X,0,none⟩ v1):=(hon.mono (fun k _ hk=>.inl hk)).setCell (p:=⟨X,0,none⟩) (.inl (.inr rfl)) _
 have honX:Only (fun k=>k=X) w5 (w5.setCell ⟨X,0,none⟩ v1):=(Only.refl (fun k=>k=X) w5).setCell (p:=⟨X,0,none⟩) (.inl rfl) _
 refine ⟨bx,fx,⟨h.dr.other hon2 (by omega) (fun k hk=>by omega),?_,OVp.stay ho honX (fun k hk e=>(hap1 k hk).1 e),hap1,World.cell?_setCell_same _ _ _ bx,by simp [fx],hon2.cell (by omega) (by omega) h.res,(z1p hon2 (by omega) (by omega)).trans h.rfz,by have:=honX.size;omega,by simp;omega⟩⟩
 exact ((h.only.alloc o).grown hg (fun k hk=>.inr (by
  have e:g=k:=by simpa using hk
  omega))).setCell (p:=⟨X,0,none⟩) (.inr (by simp only;omega)) _
theorem DN.fin (h:DN w0 w W B R X a bs cap v ps):∃ va vc,v=.slice va ps.length vc/\MinP (W.setCell ⟨w.heap.size,0,none⟩ v) w.heap.size (W.setCell ⟨w.heap.size,0,none⟩ v).heap.size va vc ps/\Dr w0 (W.setCell ⟨w.heap.size,0,none⟩ v) B R a bs cap/\Only (fun k=>k=R) w (W.setCell ⟨w.heap.size,0,none⟩ v):=by
 have hn:=h.ne;have hon:Only (fun k=>k=w.heap.size) W (W.setCell ⟨w.heap.size,0,none⟩ v):=(Only.refl (fun k=>k=w.heap.size) W).setCell (p:=⟨w.heap.size,0,none⟩) (.inl rfl) _
 have hov:=OVp.stay h.own hon (fun k hk e=>(h.apart k hk).2 e)
 obtain ⟨va,vc,e,hm⟩:=hov.mine;exact ⟨va,vc,e,hm,h.dr.other hon (by omega) (fun k hk=>by omega),h.only.setCell (p:=⟨w.heap.size,0,none⟩) (.inr nl) _⟩
end
theorem zbu {o:Oper} {a:Act} {w:World} {K:Act->World->Prop} {Q:Exit->Act->World->Prop} (s x:Operand) (ho:o.op=.call { callee:=.builtin .append,args:=#[s,x],argTypes:=#[44,44] })
  (B:Nat) (v:Value) (ps:List (Int × Int)) (hs:a.eval s=v) (hown:OVp w B v ps) (X:Nat) (y z:Int) (hx:a.eval x=.slice (some ⟨X,0,none⟩) 1 1) (hX0:w.cell? ⟨X,0,none⟩=some (.int .i64 y)) (hX1:w.cell? ⟨X,1,none⟩=some (.int .i64 z)) (hr:rP (y,z)) (hb1:ps.length<=1000000) (hbase:B<=w.heap.size)
  (h:∀ v' w',OVp w' B v' (ps++[(y,z)])->w.grownBy w' v.ownBlock->(v'.ownBlock=v.ownBlock\/v'.ownBlock=some w.heap.size)->K (a.put o.dst v') w'):o.wp Tryz.prog a w K Q:=by
 obtain ⟨i0,hi,hz0',hz1',hz2⟩:=info_parts Tryz.infoPl;obtain ⟨v',w',hr',h2,h3,_,h5⟩:=run_append_own_at (P:=Tryz.prog) w B 44 o.type 54 i0 (.agg #[.int .i64 0,.int .i64 0]) 2 16 Tryz.underlying44 hi hz0' hz1' hz2 rfl (by decide) v ps.length _ hown.1 ⟨X,0,none⟩ 1 1 [.int .i64 y,.int .i64 z] rfl (by
  intro j u hu
  match j with
  | 0=>simp at hu;subst hu;simpa [Addr.add] using hX0
  | 1=>simp at hu;subst hu;simpa [Addr.add] using hX1
  | j+2=>simp at hu) (by simp [Value.oneCell']) (by unfold maxLen;omega) (by omega) hbase
 have hrun:(Builtin.append_ #[44,44] o.type #[v,.slice (some ⟨X,0,none⟩) 1 1]).run Tryz.prog w=.ok v' w':=hr';unfold Oper.wp execOp
 simp only [ho,resolve,invoke,builtin,Sem.run_bind,Sem.run_pure,Result.andThen_ok,List.map_toArray,List.map_cons,List.map_nil,hs,hx,hrun]
 refine h v' w' ⟨?_,fun q hq=>?_⟩ h3 h5
 ·rw [List.length_append,List.flatMap_append]
  exact h2
 ·rcases List.mem_append.1 hq with hq | hq
  ·exact hown.2 q hq
  ·simp at hq
   rw [hq];exact hr
theorem Dr.bentM {w0 w:World} {B R:Nat} {a:Option Addr} {bs:List Int} {cap:Nat} (h:Dr w0 w B R a bs cap) :
  Calls Tryz.prog 52 #[.pointer (some ⟨R,0,none⟩)] w fun e w'=>∃ (va:Option Addr) (vc:Nat) (ps:List (Int × Int)),e=.returned (.agg #[.slice va ps.length vc])/\ps.length<=20/\MinP w' w.heap.size w'.heap.size va vc ps/\Dr w0 w' B R a bs cap/\Only (fun k=>k=R) w w':=by
 obtain ⟨i0,hi,hz0,hz1,hz2⟩:=info_parts Tryz.infoPl;have hRB:=h.cur.lt;have e1:(w.alloc (Obj.cells #[.slice none 0 0] 46)).heap.size=w.heap.size+1:=by simp
 have HR0:Hid (Dr w0 (w.alloc (Obj.cells #[.slice none 0 0] 46)) B R a bs cap/\Only (fun k=>k=R) w (w.alloc (Obj.cells #[.slice none 0 0] 46))/\(w.alloc (Obj.cells #[.slice none 0 0] 46)).cell? ⟨w.heap.size,0,none⟩=some (.slice none 0 0)/\(w.alloc (Obj.cells #[.slice none 0 0] 46)).frozen? ⟨w.heap.size,0,none⟩=false/\(w.alloc (Obj.cells #[.slice none 0 0] 46)).heap.size=w.heap.size+1):=
  ⟨h.other (S:=fun _=>False) ((Only.refl _ w).alloc _) (by simp) (by simp),(Only.refl _ w).alloc _,by simp,by simp,e1⟩
 clear h e1
 go_enter Tryz.func52,Tryz.ntmps52
 go_wp2_with fail
 generalize w.alloc (Obj.cells #[.slice none 0 0] 46)=W0 at *;refine HR0.out.1.map.mono ?_;rintro e w1 ⟨g,ps,rfl,hp1,hp9,hbp,how,hd,ho⟩;have HN2:Hid (DN w0 w (w1.alloc (Obj.cells #[.slice (some ⟨g,0,none⟩) ps.length ps.length] 46)) B R w1.heap.size a bs cap (.slice (some ⟨g,0,none⟩) ps.length ps.length) ps):=by
  have h5:=HR0.out.2.2.2.2;have hgl:=how.lt;have hs:=ho.size;have hoa:Only (fun _=>False) w1 (w1.alloc (Obj.cells #[.slice (some ⟨g,0,none⟩) ps.length ps.length] 46)):=(Only.refl _ w1).alloc _
  have r1:w1.cell? ⟨w.heap.size,0,none⟩=some (.slice none 0 0):=ho.cell (by omega) (by omega) HR0.out.2.2.1
  have r2:w1.frozen? ⟨w.heap.size,0,none⟩=false:=(z1p ho (by omega) (by omega)).trans HR0.out.2.2.2.1
  refine ⟨hd.other hoa (by simp) (by simp),(HR0.out.2.1.trans ho).alloc _,(OVp.stay how hoa (by simp)).weak (by omega),fun k hk=>?_,by simp,by simp,hoa.cell (by omega) (by simp) r1,(z1p hoa (by omega) (by simp)).trans r2,by simp;omega,by omega⟩
  have e:g=k:=by simpa [Value.ownBlock] using hk
  omega
 have hl0:0<ps.length:=by omega
 clear how hd ho HR0 hbp;go_wp2_with fail
 generalize w1.alloc (Obj.cells #[.slice (some ⟨g,0,none⟩) ps.length ps.length] 46)=w2 at *;generalize w1.heap.size=X at *;refine (HN2.out.dr.once 8 (by omega) (by omega)).mono ?_
 rintro e wb ⟨⟨bb,rfl⟩,hdb,hob⟩;have HNB:Hid (DN w0 w wb B R X a bs cap (.slice (some ⟨g,0,none⟩) ps.length ps.length) ps):=HN2.out.cur hdb hob;clear hdb hob HN2
 cases bb with
 | false=>
  obtain ⟨va,vc,ev,hmf,hdf,hof⟩:=HNB.out.fin;have HF:Hid _:=And.intro hmf (And.intro hdf hof);have b0:=HNB.out.box;have r0:=HNB.out.res;have rz:=HNB.out.rfz;have hXn:¬X=w.heap.size:=by have:=HNB.out.ne;omega
  obtain ⟨rfl,-,rfl⟩:some ⟨g,0,none⟩=va/\ps.length=ps.length/\ps.length=vc:=by simpa using ev
  clear hmf hdf hof ev HNB;go_wp2;exact bodyPost_ret (v:=.agg #[.slice (some ⟨g,0,none⟩) ps.length ps.length]) (by simp [results,Tryz.results52,go_sem,r0]) rfl ⟨_,_,ps,rfl,by omega,HF.out.1,HF.out.2.1,HF.out.2.2⟩
 | true=>
  go_wp2_with fail
  refine (HNB.out.dr.below 4 (by omega) (by omega)).mono ?_
  rintro e w3 ⟨⟨kk,hk1,hk2,rfl⟩,hd3,ho3⟩;have HM3:Hid (DN w0 w w3 B R X a bs cap (.slice (some ⟨g,0,none⟩) ps.length ps.length) ps):=HNB.out.cur hd3 ho3;clear hd3 ho3 HNB;have hXn:¬X=w.heap.size:=by have:=HM3.out.ne;omega
  have key:kk=0\/kk=1\/kk=2\/kk=3:=by omega
  clear hk1 hk2;rcases key with rfl | rfl | rfl | rfl
  ·have HMD:Hid (DN w0 w w3.drew B R X a bs cap (.slice (some ⟨g,0,none⟩) ps.length ps.length) ps):=HM3.out.drew
   have r00:=HM3.out.res;have hgX:¬g=X/\¬g=w.heap.size:=HM3.out.apart g rfl;have hR3:R<w3.heap.size:=HM3.out.rlt.1;obtain ⟨hg1,hg2⟩:=hgX;clear HM3;go_wp2;refine zj (S:=fun W=>W.cell? ⟨X,0,none⟩=some (.slice (some ⟨g,0,none⟩) ps.length ps.length)) 10 (by kernel_rfl) (by kernel_rfl) (by exact HMD.out.box) (fun hHeld=>?_)
   refine wpAnyH_take (i:=0) (v:=?_) rfl (by kernel_rfl) (by kernel_rfl) (by kernel_rfl) (fun _ _ _ h=>h) (Or.inl ⟨by rfl,?_⟩) (by assumption) ?_
   rotate_left
   ·(intro w hSw;(try dsimp only at hSw);go_simp;try (with_reducible rfl))
   try simp only [List.getElem_toArray,List.getElem_cons_zero,List.getElem_cons_succ,Act.put,List.setIfInBounds_toArray,List.set_cons_zero,List.set_cons_succ]
   refine wpAnyH_take (i:=1) (v:=?_) rfl (by kernel_rfl) (by kernel_rfl) (by kernel_rfl) (fun _ _ _ h=>h) (Or.inl ⟨by rfl,?_⟩) (by assumption) ?_
   rotate_left
   ·(intro w hSw;(try dsimp only at hSw);go_simp;try (with_reducible rfl))
   try simp only [List.getElem_toArray,List.getElem_cons_zero,List.getElem_cons_succ,Act.put,List.setIfInBounds_toArray,List.set_cons_zero,List.set_cons_succ]
   refine wpAnyH_take (i:=2) (v:=?_) rfl (by kernel_rfl) (by kernel_rfl) (by kernel_rfl) (fun _ _ _ h=>h) (Or.inl ⟨by rfl,?_⟩) (by assumption) ?_
   rotate_left
   ·(intro w hSw;(try dsimp only at hSw);go_simp;try (with_reducible rfl))
   try simp only [List.getElem_toArray,List.getElem_cons_zero,List.getElem_cons_succ,Act.put,List.setIfInBounds_toArray,List.set_cons_zero,List.set_cons_succ]
   refine wpAnyH_take (i:=5) (v:=?_) rfl (by kernel_rfl) (by kernel_rfl) (by kernel_rfl) (fun _ _ _ h=>h) (Or.inl ⟨by rfl,?_⟩) (by assumption) ?_
   rotate_left
   ·(intro w hSw;(try dsimp only at hSw);go_simp;try (with_reducible rfl))
   try simp only [List.getElem_toArray,List.getElem_cons_zero,List.getElem_cons_succ,Act.put,List.setIfInBounds_toArray,List.set_cons_zero,List.set_cons_succ]
   refine wpAnyH_ready (rs:=[3,6]) (by kernel_rfl) (by simp) ?_
   refine AllReadyH.cons rfl (fun K hK=>?_) (AllReadyH.cons rfl (fun K hK=>?_) AllReadyH.nil)
   ·skip
    go_simp
    have HMA:Hid (DN w0 w (w3.drew.alloc (Obj.cells #[.int .i64 0,.int .i64 1,.int .i64 2,.int .i64 23,.int .i64 24] 3)) B R X a bs cap (.slice (some ⟨g,0,none⟩) ps.length ps.length) ps):=HMD.out.al _;refine hK.out _ _ (by exact HMA.out.box) (fun hHeld=>?_)
    clear hK K
    try simp only [List.getElem_toArray,List.getElem_cons_zero,List.getElem_cons_succ,Act.put,List.setIfInBounds_toArray,List.set_cons_zero,List.set_cons_succ]
    have HMa:Hid _:=HMA.out;clear HMA;refine wpAnyH_ready (rs:=[4,6]) (by kernel_rfl) (by simp) ?_
    refine AllReadyH.cons rfl (fun K hK=>?_) (AllReadyH.cons rfl (fun K hK=>?_) AllReadyH.nil)
    ·skip
     go_simp
     refine (HMa.out.dr.pick w3.heap.size 5 [0,1,2,23,24] (by exact zko _ _) (by omega) (by simp) (by simp)).mono ?_
     rintro e wc ⟨⟨x,xm,rfl⟩,hdc,hoc⟩;have HMwc:Hid (DN w0 w wc B R X a bs cap (.slice (some ⟨g,0,none⟩) ps.length ps.length) ps):=HMa.out.cur hdc hoc;clear hdc hoc
     dsimp only
     refine hK.out _ _ (by exact HMwc.out.box) (fun hHeld=>?_)
     clear hK K
     try simp only [List.getElem_toArray,List.getElem_cons_zero,List.getElem_cons_succ,Act.put,List.setIfInBounds_toArray,List.set_cons_zero,List.set_cons_succ]
     refine wpAnyH_ready (rs:=[6]) (by kernel_rfl) (by simp) ?_
     refine AllReadyH.cons rfl (fun K hK=>?_) AllReadyH.nil
     go_simp
     have HMA:Hid (DN w0 w (wc.alloc (Obj.cells #[.int .i64 0,.int .i64 15,.int .i64 16,.int .i64 (-1)] 3)) B R X a bs cap (.slice (some ⟨g,0,none⟩) ps.length ps.length) ps):=HMwc.out.al _;refine hK.out _ _ (by exact HMA.out.box) (fun hHeld=>?_)
     clear hK K
     try simp only [List.getElem_toArray,List.getElem_cons_zero,List.getElem_cons_succ,Act.put,List.setIfInBounds_toArray,List.set_cons_zero,List.set_cons_succ]
     have HMb:Hid _:=HMA.out;clear HMA;refine wpAnyH_ready (rs:=[7]) (by kernel_rfl) (by simp) ?_
     refine AllReadyH.cons rfl (fun K hK=>?_) AllReadyH.nil
     go_simp
     refine (HMb.out.dr.pick wc.heap.size 4 [0,15,16,-1] (by exact zme _ _) (by have:=HMwc.out.rlt;omega) (by simp) (by simp)).mono ?_
     rintro e wd ⟨⟨y,ym,rfl⟩,hdc,hoc⟩;have HMwd:Hid (DN w0 w wd B R X a bs cap (.slice (some ⟨g,0,none⟩) ps.length ps.length) ps):=HMb.out.cur hdc hoc;clear hdc hoc
     dsimp only
     refine hK.out _ _ (by exact HMwd.out.box) (fun hHeld=>?_)
     clear hK K
     try simp only [List.getElem_toArray,List.getElem_cons_zero,List.getElem_cons_succ,Act.put,List.setIfInBounds_toArray,List.set_cons_zero,List.set_cons_succ]
     refine wpAnyH_take (i:=8) (v:=?_) rfl (by kernel_rfl) (by kernel_rfl) (by kernel_rfl) (fun _ _ _ h=>h) (Or.inl ⟨by rfl,?_⟩) (by assumption) ?_
     rotate_left
     ·(intro w hSw;(try dsimp only at hSw);go_simp;try (with_reducible rfl))
     try simp only [List.getElem_toArray,List.getElem_cons_zero,List.getElem_cons_succ,Act.put,List.setIfInBounds_toArray,List.set_cons_zero,List.set_cons_succ]
     refine wpAnyH_take (i:=9) (v:=?_) rfl (by kernel_rfl) (by kernel_rfl) (by kernel_rfl) (fun _ _ _ h=>h) (Or.inl ⟨by rfl,?_⟩) (by assumption) ?_
     rotate_left
     ·(intro w hSw;(try dsimp only at hSw);go_simp;try (with_reducible rfl))
     try simp only [List.getElem_toArray,List.getElem_cons_zero,List.getElem_cons_succ,Act.put,List.setIfInBounds_toArray,List.set_cons_zero,List.set_cons_succ]
     refine wpAnyH_done (by kernel_rfl) ?_ _
     simp only [z0d,List.drop_succ_cons,List.drop_zero]
     have hxr:rP (x,y):=⟨by simp at xm;simp only;omega,by simp at ym;simp only;omega⟩
     obtain ⟨HST,ox,oy,q0,q1,z0,z1⟩:=HMwd.out.put0 rfl hl0 x y hxr;have HST':Hid _:=HST;have b6:=HST.box;have r6:=HST.res;have rz6:=HST.rfz;clear HST xm ym;go_wp2;obtain ⟨va,vc,ev,hmf,hdf,hof⟩:=HST'.out.fin;obtain ⟨rfl,-,rfl⟩:some ⟨g,0,none⟩=va/\ps.length=ps.length/\ps.length=vc:=by simpa using ev
     have HF:Hid _:=And.intro hmf (And.intro hdf hof);exact bodyPost_ret (v:=.agg #[.slice (some ⟨g,0,none⟩) ps.length ps.length]) (by simp [results,Tryz.results52,go_sem,r6]) rfl ⟨_,_,ps.set 0 (x,y),by simp,by simp;omega,HF.out.1,HF.out.2.1,HF.out.2.2⟩
    ·skip
     go_simp
     have HMA:Hid (DN w0 w ((w3.drew.alloc (Obj.cells #[.int .i64 0,.int .i64 1,.int .i64 2,.int .i64 23,.int .i64 24] 3)).alloc (Obj.cells #[.int .i64 0,.int .i64 15,.int .i64 16,.int .i64 (-1)] 3)) B R X a bs cap (.slice (some ⟨g,0,none⟩) ps.length ps.length) ps):=HMa.out.al _;refine hK.out _ _ (by exact HMA.out.box) (fun hHeld=>?_)
     clear hK K
     try simp only [List.getElem_toArray,List.getElem_cons_zero,List.getElem_cons_succ,Act.put,List.setIfInBounds_toArray,List.set_cons_zero,List.set_cons_succ]
     have HMb:Hid _:=HMA.out;clear HMA;refine wpAnyH_ready (rs:=[4]) (by kernel_rfl) (by simp) ?_
     refine AllReadyH.cons rfl (fun K hK=>?_) AllReadyH.nil
     go_simp
     refine (HMb.out.dr.pick w3.heap.size 5 [0,1,2,23,24] (by exact (zko _ _).alloc _) (by omega) (by simp) (by simp)).mono ?_
     rintro e wc ⟨⟨x,xm,rfl⟩,hdc,hoc⟩;have hinB:Ins wc (some ⟨w3.heap.size+1,0,none⟩) [0,15,16,-1]:=by
      have h9:=zme (w3.drew.alloc (Obj.cells #[.int .i64 0,.int .i64 1,.int .i64 2,.int .i64 23,.int .i64 24] 3)) 3;have h8:=zd3 h9 hoc (by first | omega | (simp;omega))
      simpa using h8
     have HMwc:Hid (DN w0 w wc B R X a bs cap (.slice (some ⟨g,0,none⟩) ps.length ps.length) ps):=HMb.out.cur hdc hoc;clear hdc hoc
     dsimp only
     refine hK.out _ _ (by exact HMwc.out.box) (fun hHeld=>?_)
     clear hK K
     try simp only [List.getElem_toArray,List.getElem_cons_zero,List.getElem_cons_succ,Act.put,List.setIfInBounds_toArray,List.set_cons_zero,List.set_cons_succ]
     refine wpAnyH_ready (rs:=[7]) (by kernel_rfl) (by simp) ?_
     refine AllReadyH.cons rfl (fun K hK=>?_) AllReadyH.nil
     go_simp
     refine (HMwc.out.dr.pick (w3.heap.size+1) 4 [0,15,16,-1] hinB (by omega) (by simp) (by simp)).mono ?_
     rintro e wd ⟨⟨y,ym,rfl⟩,hdc,hoc⟩;have HMwd:Hid (DN w0 w wd B R X a bs cap (.slice (some ⟨g,0,none⟩) ps.length ps.length) ps):=HMwc.out.cur hdc hoc;clear hdc hoc
     dsimp only
     refine hK.out _ _ (by exact HMwd.out.box) (fun hHeld=>?_)
     clear hK K
     try simp only [List.getElem_toArray,List.getElem_cons_zero,List.getElem_cons_succ,Act.put,List.setIfInBounds_toArray,List.set_cons_zero,List.set_cons_succ]
     refine wpAnyH_take (i:=8) (v:=?_) rfl (by kernel_rfl) (by kernel_rfl) (by kernel_rfl) (fun _ _ _ h=>h) (Or.inl ⟨by rfl,?_⟩) (by assumption) ?_
     rotate_left
     ·(intro w hSw;(try dsimp only at hSw);go_simp;try (with_reducible rfl))
     try simp only [List.getElem_toArray,List.getElem_cons_zero,List.getElem_cons_succ,Act.put,List.setIfInBounds_toArray,List.set_cons_zero,List.set_cons_succ]
     refine wpAnyH_take (i:=9) (v:=?_) rfl (by kernel_rfl) (by kernel_rfl) (by kernel_rfl) (fun _ _ _ h=>h) (Or.inl ⟨by rfl,?_⟩) (by assumption) ?_
     rotate_left
     ·(intro w hSw;(try dsimp only at hSw);go_simp;try (with_reducible rfl))
     try simp only [List.getElem_toArray,List.getElem_cons_zero,List.getElem_cons_succ,Act.put,List.setIfInBounds_toArray,List.set_cons_zero,List.set_cons_succ]
     refine wpAnyH_done (by kernel_rfl) ?_ _
     simp only [z0d,List.drop_succ_cons,List.drop_zero]
     have hxr:rP (x,y):=⟨by simp at xm;simp only;omega,by simp at ym;simp only;omega⟩
     obtain ⟨HST,ox,oy,q0,q1,z0,z1⟩:=HMwd.out.put0 rfl hl0 x y hxr;have HST':Hid _:=HST;have b6:=HST.box;have r6:=HST.res;have rz6:=HST.rfz;clear HST xm ym;go_wp2;obtain ⟨va,vc,ev,hmf,hdf,hof⟩:=HST'.out.fin;obtain ⟨rfl,-,rfl⟩:some ⟨g,0,none⟩=va/\ps.length=ps.length/\ps.length=vc:=by simpa using ev
     have HF:Hid _:=And.intro hmf (And.intro hdf hof);exact bodyPost_ret (v:=.agg #[.slice (some ⟨g,0,none⟩) ps.length ps.length]) (by simp [results,Tryz.results52,go_sem,r6]) rfl ⟨_,_,ps.set 0 (x,y),by simp,by simp;omega,HF.out.1,HF.out.2.1,HF.out.2.2⟩
   ·skip
    go_simp
    have HMA:Hid (DN w0 w (w3.drew.alloc (Obj.cells #[.int .i64 0,.int .i64 15,.int .i64 16,.int .i64 (-1)] 3)) B R X a bs cap (.slice (some ⟨g,0,none⟩) ps.length ps.length) ps):=HMD.out.al _;refine hK.out _ _ (by exact HMA.out.box) (fun hHeld=>?_)
    clear hK K
    try simp only [List.getElem_toArray,List.getElem_cons_zero,List.getElem_cons_succ,Act.put,List.setIfInBounds_toArray,List.set_cons_zero,List.set_cons_succ]
    have HMa:Hid _:=HMA.out;clear HMA;refine wpAnyH_ready (rs:=[3]) (by kernel_rfl) (by simp) ?_
    refine AllReadyH.cons rfl (fun K hK=>?_) AllReadyH.nil
    go_simp
    have HMA:Hid (DN w0 w ((w3.drew.alloc (Obj.cells #[.int .i64 0,.int .i64 15,.int .i64 16,.int .i64 (-1)] 3)).alloc (Obj.cells #[.int .i64 0,.int .i64 1,.int .i64 2,.int .i64 23,.int .i64 24] 3)) B R X a bs cap (.slice (some ⟨g,0,none⟩) ps.length ps.length) ps):=HMa.out.al _;refine hK.out _ _ (by exact HMA.out.box) (fun hHeld=>?_)
    clear hK K
    try simp only [List.getElem_toArray,List.getElem_cons_zero,List.getElem_cons_succ,Act.put,List.setIfInBounds_toArray,List.set_cons_zero,List.set_cons_succ]
    have HMb:Hid _:=HMA.out;clear HMA;refine wpAnyH_ready (rs:=[4]) (by kernel_rfl) (by simp) ?_
    refine AllReadyH.cons rfl (fun K hK=>?_) AllReadyH.nil
    go_simp
    refine (HMb.out.dr.pick (w3.heap.size+1) 5 [0,1,2,23,24] (by have h9:=zko (w3.drew.alloc (Obj.cells #[.int .i64 0,.int .i64 15,.int .i64 16,.int .i64 (-1)] 3)) 3;simpa using h9) (by omega) (by simp) (by simp)).mono ?_
    rintro e wc ⟨⟨x,xm,rfl⟩,hdc,hoc⟩;have hinB:Ins wc (some ⟨w3.heap.size,0,none⟩) [0,15,16,-1]:=by
     have h9:=(zme w3.drew 3).alloc (Obj.cells #[.int .i64 0,.int .i64 1,.int .i64 2,.int .i64 23,.int .i64 24] 3);exact zd3 h9 hoc (by first | omega | (simp;omega))
    have HMwc:Hid (DN w0 w wc B R X a bs cap (.slice (some ⟨g,0,none⟩) ps.length ps.length) ps):=HMb.out.cur hdc hoc;clear hdc hoc
    dsimp only
    refine hK.out _ _ (by exact HMwc.out.box) (fun hHeld=>?_)
    clear hK K
    try simp only [List.getElem_toArray,List.getElem_cons_zero,List.getElem_cons_succ,Act.put,List.setIfInBounds_toArray,List.set_cons_zero,List.set_cons_succ]
    refine wpAnyH_ready (rs:=[7]) (by kernel_rfl) (by simp) ?_
    refine AllReadyH.cons rfl (fun K hK=>?_) AllReadyH.nil
    go_simp
    refine (HMwc.out.dr.pick w3.heap.size 4 [0,15,16,-1] hinB (by omega) (by simp) (by simp)).mono ?_
    rintro e wd ⟨⟨y,ym,rfl⟩,hdc,hoc⟩;have HMwd:Hid (DN w0 w wd B R X a bs cap (.slice (some ⟨g,0,none⟩) ps.length ps.length) ps):=HMwc.out.cur hdc hoc;clear hdc hoc
    dsimp only
    refine hK.out _ _ (by exact HMwd.out.box) (fun hHeld=>?_)
    clear hK K
    try simp only [List.getElem_toArray,List.getElem_cons_zero,List.getElem_cons_succ,Act.put,List.setIfInBounds_toArray,List.set_cons_zero,List.set_cons_succ]
    refine wpAnyH_take (i:=8) (v:=?_) rfl (by kernel_rfl) (by kernel_rfl) (by kernel_rfl) (fun _ _ _ h=>h) (Or.inl ⟨by rfl,?_⟩) (by assumption) ?_
    rotate_left
    ·(intro w hSw;(try dsimp only at hSw);go_simp;try (with_reducible rfl))
    try simp only [List.getElem_toArray,List.getElem_cons_zero,List.getElem_cons_succ,Act.put,List.setIfInBounds_toArray,List.set_cons_zero,List.set_cons_succ]
    refine wpAnyH_take (i:=9) (v:=?_) rfl (by kernel_rfl) (by kernel_rfl) (by kernel_rfl) (fun _ _ _ h=>h) (Or.inl ⟨by rfl,?_⟩) (by assumption) ?_
    rotate_left
    ·(intro w hSw;(try dsimp only at hSw);go_simp;try (with_reducible rfl))
    try simp only [List.getElem_toArray,List.getElem_cons_zero,List.getElem_cons_succ,Act.put,List.setIfInBounds_toArray,List.set_cons_zero,List.set_cons_succ]
    refine wpAnyH_done (by kernel_rfl) ?_ _
    simp only [z0d,List.drop_succ_cons,List.drop_zero]
    have hxr:rP (x,y):=⟨by simp at xm;simp only;omega,by simp at ym;simp only;omega⟩
    obtain ⟨HST,ox,oy,q0,q1,z0,z1⟩:=HMwd.out.put0 rfl hl0 x y hxr;have HST':Hid _:=HST;have b6:=HST.box;have r6:=HST.res;have rz6:=HST.rfz;clear HST xm ym;go_wp2;obtain ⟨va,vc,ev,hmf,hdf,hof⟩:=HST'.out.fin;obtain ⟨rfl,-,rfl⟩:some ⟨g,0,none⟩=va/\ps.length=ps.length/\ps.length=vc:=by simpa using ev
    have HF:Hid _:=And.intro hmf (And.intro hdf hof);exact bodyPost_ret (v:=.agg #[.slice (some ⟨g,0,none⟩) ps.length ps.length]) (by simp [results,Tryz.results52,go_sem,r6]) rfl ⟨_,_,ps.set 0 (x,y),by simp,by simp;omega,HF.out.1,HF.out.2.1,HF.out.2.2⟩
  ·have HST':Hid _:=HM3.out.setBox (v':=.slice none 0 0) (ps':=[]) (OVp.nil _ _) (by simp [Value.ownBlock]) (by simp)
   obtain ⟨va,vc,ev,hmf,hdf,hof⟩:=HST'.out.fin;have HF:Hid _:=And.intro hmf (And.intro hdf hof);have b3:=HM3.out.box;have f3:=HM3.out.fz;have b0:=HST'.out.box;have r0:=HST'.out.res;have rz:=HST'.out.rfz;have r00:=HM3.out.res;have rz0:=HM3.out.rfz;obtain ⟨rfl,rfl⟩:none=va/\0=vc:=by simpa using ev
   clear hmf hdf hof ev HM3 HST';go_wp2;exact bodyPost_ret (v:=.agg #[.slice none 0 0]) (by simp [results,Tryz.results52,go_sem,r00,r0]) rfl ⟨_,_,[],rfl,by simp,HF.out.1,HF.out.2.1,HF.out.2.2⟩
  ·have HMD:Hid (DN w0 w w3.drew B R X a bs cap (.slice (some ⟨g,0,none⟩) ps.length ps.length) ps):=HM3.out.drew
   have bx:=HM3.out.box;have how:OwP w3 w.heap.size g ps.length ps:=HM3.out.own;obtain ⟨q0,q1⟩:=how.cell 0 hl0
   simp only [Nat.zero_mul,Nat.zero_add] at q0 q1
   have HXY:Hid (rP (ps.getD 0 dp)):=how.2 _ (zb7 hl0);have hXl:X<w3.heap.size:=HM3.out.ne.2.1;generalize ps.getD 0 dp=q at *;obtain ⟨x,y⟩:=q
   simp only at q0 q1
   clear how HM3;go_wp2;refine zj (S:=fun W=>W.cell? ⟨X,0,none⟩=some (.slice (some ⟨g,0,none⟩) ps.length ps.length)) 9 (by kernel_rfl) (by kernel_rfl) (by exact bx) (fun hHeld=>?_)
   refine wpAnyH_take (i:=0) (v:=?_) rfl (by kernel_rfl) (by kernel_rfl) (by kernel_rfl) (fun _ _ _ h=>h) (Or.inl ⟨by rfl,?_⟩) (by assumption) ?_
   rotate_left
   ·(intro w hSw;(try dsimp only at hSw);go_simp;try (with_reducible rfl))
   try simp only [List.getElem_toArray,List.getElem_cons_zero,List.getElem_cons_succ,Act.put,List.setIfInBounds_toArray,List.set_cons_zero,List.set_cons_succ]
   refine wpAnyH_take (i:=1) (v:=?_) rfl (by kernel_rfl) (by kernel_rfl) (by kernel_rfl) (fun _ _ _ h=>h) (Or.inl ⟨by rfl,?_⟩) (by assumption) ?_
   rotate_left
   ·(intro w hSw;(try dsimp only at hSw);go_simp;try (with_reducible rfl))
   try simp only [List.getElem_toArray,List.getElem_cons_zero,List.getElem_cons_succ,Act.put,List.setIfInBounds_toArray,List.set_cons_zero,List.set_cons_succ]
   refine wpAnyH_take (i:=2) (v:=?_) rfl (by kernel_rfl) (by kernel_rfl) (by kernel_rfl) (fun _ _ _ h=>h) (Or.inl ⟨by rfl,?_⟩) (by assumption) ?_
   rotate_left
   ·(intro w hSw;(try dsimp only at hSw);go_simp;try (with_reducible rfl))
   try simp only [List.getElem_toArray,List.getElem_cons_zero,List.getElem_cons_succ,Act.put,List.setIfInBounds_toArray,List.set_cons_zero,List.set_cons_succ]
   refine wpAnyH_take (i:=3) (v:=?_) rfl (by kernel_rfl) (by kernel_rfl) (by kernel_rfl) (fun _ _ _ h=>h) (Or.inl ⟨by rfl,?_⟩) (by assumption) ?_
   rotate_left
   ·(intro w hSw;(try dsimp only at hSw);go_simp;try (with_reducible rfl))
   try simp only [List.getElem_toArray,List.getElem_cons_zero,List.getElem_cons_succ,Act.put,List.setIfInBounds_toArray,List.set_cons_zero,List.set_cons_succ]
   refine wpAnyH_take (i:=4) (v:=?_) rfl (by kernel_rfl) (by kernel_rfl) (by kernel_rfl) (fun _ _ _ h=>h) (Or.inl ⟨by rfl,?_⟩) (by assumption) ?_
   rotate_left
   ·(intro w hSw;(try dsimp only at hSw);go_simp;try (with_reducible rfl))
   try simp only [List.getElem_toArray,List.getElem_cons_zero,List.getElem_cons_succ,Act.put,List.setIfInBounds_toArray,List.set_cons_zero,List.set_cons_succ]
   refine wpAnyH_ready (rs:=[5]) (by kernel_rfl) (by simp) ?_
   refine AllReadyH.cons rfl (fun K hK=>?_) AllReadyH.nil
   go_simp
   refine hK.out _ _ (by exact bx) (fun hHeld=>?_)
   clear hK K
   try simp only [List.getElem_toArray,List.getElem_cons_zero,List.getElem_cons_succ,Act.put,List.setIfInBounds_toArray,List.set_cons_zero,List.set_cons_succ]
   refine wpAnyH_ready (rs:=[6]) (by kernel_rfl) (by simp) ?_
   refine AllReadyH.cons rfl (fun K hK=>?_) AllReadyH.nil
   go_simp
   refine hK.out _ _ (by exact zb _ (by exact hXl) bx) (fun hHeld=>?_)
   clear hK K
   try simp only [List.getElem_toArray,List.getElem_cons_zero,List.getElem_cons_succ,Act.put,List.setIfInBounds_toArray,List.set_cons_zero,List.set_cons_succ]
   refine wpAnyH_ready (rs:=[7]) (by kernel_rfl) (by simp) ?_
   refine AllReadyH.cons rfl (fun K hK=>?_) AllReadyH.nil
   refine z1e rfl (zbu (.tmp 33) (.tmp 38) rfl w.heap.size (.slice (some ⟨g,0,none⟩) ps.length ps.length) ps (by simp [Act.eval]) (by exact OVp.stay HMD.out.own ((Only.refl (fun _=>False) _).alloc _) (by simp)) w3.heap.size x y (by simp [Act.eval]) (by simp) (by simp) HXY.out (by omega) (by have h8:=HMD.out.rlt.2;have h9:w3.drew.heap.size=w3.heap.size:=rfl;simp;omega) ?_)
   intro v1 w5 hov1 hg1 hloc1
   have hm5:=HMD.out.app (o:=Obj.cells #[.int .i64 x,.int .i64 y] 54) hov1 (by exact hg1) (hloc1.imp (fun h=>h) (fun h=>by rw [h];simp)) (by omega)
   obtain ⟨b5,f5,hn5⟩:=hm5;obtain ⟨va1,vc1,hv1⟩:=hov1.form;have hln:(ps++[(x,y)]).length=ps.length+1:=by simp
   rw [hln] at hv1;clear hln;subst hv1;have HN5:Hid _:=hn5;clear hov1 hg1 hn5 hloc1;refine hK.out _ _ (by exact b5) (fun hHeld=>?_)
   clear hK K
   try simp only [List.getElem_toArray,List.getElem_cons_zero,List.getElem_cons_succ,Act.put,List.setIfInBounds_toArray,List.set_cons_zero,List.set_cons_succ]
   refine wpAnyH_take (i:=8) (v:=?_) rfl (by kernel_rfl) (by kernel_rfl) (by kernel_rfl) (fun _ _ _ h=>h) (Or.inl ⟨by rfl,?_⟩) (by assumption) ?_
   rotate_left
   ·(intro w hSw;(try dsimp only at hSw);go_simp;try (with_reducible rfl))
   try simp only [List.getElem_toArray,List.getElem_cons_zero,List.getElem_cons_succ,Act.put,List.setIfInBounds_toArray,List.set_cons_zero,List.set_cons_succ]
   refine wpAnyH_done (by kernel_rfl) ?_ _
   simp only [z0d,List.drop_succ_cons,List.drop_zero]
   obtain ⟨va,vc,ev,hmf,hdf,hof⟩:=HN5.out.fin;obtain ⟨rfl,rfl⟩:va1=va/\vc1=vc:=by simpa using ev
   have HF:Hid _:=And.intro hmf (And.intro hdf hof);have b6:=HN5.out.box;have r6:=HN5.out.res;have rz6:=HN5.out.rfz;clear hmf hdf hof ev HMD hHeld;go_wp2;exact bodyPost_ret (v:=.agg #[.slice va1 (ps.length+1) vc1]) (by simp [results,Tryz.results52,go_sem,r6]) rfl ⟨va1,vc1,ps++[(x,y)],by simp,by simp;omega,HF.out.1,HF.out.2.1,HF.out.2.2⟩
  ·go_wp2_with fail
   refine (HM3.out.dr.below 2 (by omega) (by omega)).mono ?_
   rintro e w4 ⟨⟨z,hz1',hz2',rfl⟩,hd4,ho4⟩;have HM4:Hid (DN w0 w w4 B R X a bs cap (.slice (some ⟨g,0,none⟩) ps.length ps.length) ps):=HM3.out.cur hd4 ho4;obtain ⟨z,rfl⟩:=Int.eq_ofNat_of_zero_le hz1';clear hd4 ho4 HM3 hz1';have e1:(16:Int)+(z:Nat)=((16+z:Nat):Int):=by simp
   have hn1:16+z<=17:=by omega
   clear hz2';generalize 16+z=m at *;have hs4:w.heap.size<=w4.heap.size:=HM4.out.rlt.2;go_wp2_with (at_make;refine wpList_make_full _ rfl _ _ 44 rfl w.heap.size 54 i0 (.agg #[.int .i64 0,.int .i64 0]) 2 Tryz.underlying44 hi hz0 hz1 .i64 .i64 _ _ m (by simp [Act.eval];try omega) rfl rfl rfl (by rw [hz2];omega) (by unfold maxLen;omega) hs4 ?_;intro w5 hown hgrow;have honly5:Only (fun _=>False) w4 w5:=Only.grown (Only.refl _ w4) hgrow (fun k hk=>by cases hk);have HM5:Hid (DN w0 w w5 B R X a bs cap (.slice (some ⟨g,0,none⟩) ps.length ps.length) ps):=HM4.out.still (S:=fun _=>False) (HM4.out.dr.other honly5 (by simp) (by simp)) honly5 (by simp) (HM4.out.only.trans (honly5.mono (by simp)));have hmade:=OwP.made hown;have HS6:Hid (DN w0 w (w5.setCell ⟨X,0,none⟩ (.slice (some ⟨w4.heap.size,0,none⟩) m m)) B R X a bs cap (.slice (some ⟨w4.heap.size,0,none⟩) m m) (List.replicate m dp)):=HM5.out.setBox (by have h9:OVp w5 w.heap.size (.slice (some ⟨w4.heap.size,0,none⟩) (List.replicate m dp).length m) (List.replicate m dp):=hmade;simpa using h9) (fun k hk=>by have e9:w4.heap.size=k:=(by simpa [Value.ownBlock] using hk);have:=HM4.out.ne;omega) (by simp;omega);have b5:=HM5.out.box;have f5:=HM5.out.fz;have b6:=HS6.out.box;have r6:=HS6.out.res;have rz6:=HS6.out.rfz;clear hown hgrow hmade honly5)
   obtain ⟨va,vc,ev,hmf,hdf,hof⟩:=HS6.out.fin;obtain ⟨rfl,-,rfl⟩:some ⟨w4.heap.size,0,none⟩=va/\m=m/\m=vc:=by simpa using ev
   have HF:Hid _:=And.intro hmf (And.intro hdf hof);clear hmf hdf hof ev;exact bodyPost_ret (v:=.agg #[.slice (some ⟨w4.heap.size,0,none⟩) m m]) (by simp [results,Tryz.results52,go_sem,r6]) rfl ⟨_,_,List.replicate m dp,by simp,by simp;omega,HF.out.1,HF.out.2.1,HF.out.2.2⟩
end Go.Proofs.YtjmcjbmjgpponaaGreatDoor
