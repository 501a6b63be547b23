/- Lemmas on the way. -/
import Derived.Test.YtfeokafkhnbdiaaGreatDoorUs2
import Derived.Test.YtfeokafkhnbdiaaGreatDoorSqEq
set_option maxRecDepth 20000
set_option maxHeartbeats 16000000
namespace Go.Proofs.YtfeokafkhnbdiaaGreatDoor
open Go.RowKit
set_option linter.unusedVariables false
set_option linter.unusedSimpArgs false
def lenAt (Q:Nat) (w:World):Nat:=match w.cell? ⟨Q,0,none⟩ with | some v=>lenS v | none=>0
theorem SR.lenAt {w0 w:World} {B Q R:Nat} {rest:List Int} (h:SR w0 w B Q R rest):lenAt Q w=rest.length:=by
 obtain ⟨la,lc,h1,_⟩:=h
 unfold Go.Proofs.YtfeokafkhnbdiaaGreatDoor.lenAt
 rw [cellRR (j:=0) h1 rfl]
 rfl
def BxS (w:World) (X:Nat) (v:Value) (n d:Int):Prop:=w.heap[X]?=some (.cells #[v,.int .i64 n,.int .i64 d] 37 (0,0))
theorem BxS.only {S:Nat→Prop} {w w':World} {X:Nat} {v:Value} {n d:Int} (h:BxS w X v n d) (ho:Only S w w') (hs:¬S X):BxS w' X v n d:=(ho.block X (Array.getElem?_eq_some_iff.1 h).1 hs).trans h
theorem BxS.c0 {w:World} {X:Nat} {v:Value} {n d:Int} (h:BxS w X v n d):w.cell? ⟨X,0,none⟩=some v:=cellRR (j:=0) h rfl
theorem BxS.c1 {w:World} {X:Nat} {v:Value} {n d:Int} (h:BxS w X v n d):w.cell? ⟨X,1,none⟩=some (.int .i64 n):=cellRR (j:=1) h rfl
theorem BxS.c2 {w:World} {X:Nat} {v:Value} {n d:Int} (h:BxS w X v n d):w.cell? ⟨X,2,none⟩=some (.int .i64 d):=cellRR (j:=2) h rfl
theorem BxS.fz {w:World} {X:Nat} {v:Value} {n d:Int} (h:BxS w X v n d) (j:Nat):w.frozen? ⟨X,j,none⟩=false:=frozen_of_row w X j _ _ h
theorem BxS.lt {w:World} {X:Nat} {v:Value} {n d:Int} (h:BxS w X v n d):X<w.heap.size:=(Array.getElem?_eq_some_iff.1 h).1
theorem BxS.set0 {w:World} {X:Nat} {v:Value} {n d:Int} (h:BxS w X v n d) (u:Value):BxS (w.setCell ⟨X,0,none⟩ u) X u n d:=by
 unfold BxS
 rw [heap_setCell_same _ X 0 _ _ _ h]
 simp
theorem BxS.set1 {w:World} {X:Nat} {v:Value} {n d:Int} (h:BxS w X v n d) (u:Int):BxS (w.setCell ⟨X,1,none⟩ (.int .i64 u)) X v u d:=by
 unfold BxS
 rw [heap_setCell_same _ X 1 _ _ _ h]
 simp
theorem BxS.set2 {w:World} {X:Nat} {v:Value} {n d:Int} (h:BxS w X v n d) (u:Int):BxS (w.setCell ⟨X,2,none⟩ (.int .i64 u)) X v n u:=by
 unfold BxS
 rw [heap_setCell_same _ X 2 _ _ _ h]
 simp
theorem set_only (w:World) (X j:Nat) (v:Value):Only (fun b=>b=X) w (w.setCell ⟨X,j,none⟩ v):=Only.setCell (Only.refl (fun b=>b=X) w) (p:=⟨X,j,none⟩) (.inl rfl) _
theorem OVB.notBox {w:World} {B:Nat} {v:Value} {zs:List Int} (h:OVB w B v zs) {X:Nat} {u:Value} {n d:Int} (hx:BxS w X u n d):∀ k,v.ownBlock=some k→¬k=X:=by
 rintro k hk rfl
 exact h.blk_ne hx (by decide) hk.symm
theorem OVB.stayK {S:Nat→Prop} {w w':World} {B:Nat} {v:Value} {zs:List Int} (h:OVB w B v zs) (ho:Only S w w') (hs:∀ k,v.ownBlock=some k→¬S k):OVB w' B v zs:=by
 refine ⟨⟨h.1.1,?_⟩,h.2⟩
 rcases h.1.2 with h' | ⟨g,cap,cur,h',hg,hh,r⟩
 ·exact .inl h'
 ·exact .inr ⟨g,cap,cur,h',hg,(ho.block g (Array.getElem?_eq_some_iff.1 hh).1 (hs g (by rw [h'];rfl))).trans hh,r⟩
structure SqSt (w0 w wr:World) (B Q R:Nat) (x:Option Addr) (L cx N V p:Nat) (rest rest':List Int) (p':Nat) (lv:Value) (ls:List Int) (n1 d1:Int):Prop where
 sr:SR w0 wr B Q R rest'
 rd:RD wr B R x L cx N p'
 le:p'≤N
 one:BxS wr (w.heap.size+1) lv n1 d1
 res:BxS wr w.heap.size (.slice none 0 0) 0 0
 ov:OVB wr (w.heap.size+2) lv ls
 on:Only (fun b=>b=Q∨b=R) w wr
 QR:Q<w.heap.size∧R<w.heap.size
 len:ls.length+rest'.length≤rest.length
 bel:Below B w0 wr
def sqR (w0 w w':World) (B Q R:Nat) (x:Option Addr) (L cx N V p:Nat) (rest:List Int) (e:Ending):Prop:=
 (∃ (lv:Value) (ls:List Int) (n d:Int) (rest':List Int) (p':Nat),e=.returned (.tuple #[.agg #[lv,.int .i64 n,.int .i64 d],.nilIface])∧SR w0 w' B Q R rest'∧RD w' B R x L cx N p'∧p'≤N∧OVB w' w.heap.size lv ls∧Only (fun b=>b=Q∨b=R) w w'∧(ls.length+rest'.length≤rest.length∧rest'.length<rest.length)∧(0≤n∧n≤10000∧0≤d∧d≤10000)∧(∀ z ∈ rest',z ∈ rest) ∧
   ∀ out,uqE N (uq N V rest p [] 0 out)=uqE N (uq N V rest' p' [] 0 (out++[(ls,n,d)]))) ∨
 ((∃ (T:TypeId) (y:Value) (sa:Option Addr) (sl sc:Nat) (c d:Int),e=.returned (.tuple #[.agg #[.slice sa sl sc,.int .i64 c,.int .i64 d],.iface T y]))∧(∀ out,uqE N (uq N V rest p [] 0 out)=none)∧Only (fun b=>b=Q∨b=R) w w')
theorem SqSt.app {w0 w wr w4:World} {B Q R:Nat} {x:Option Addr} {L cx N V p:Nat} {rest rest':List Int} {p':Nat} {lv v4:Value} {ls ls4:List Int} (h:SqSt w0 w wr B Q R x L cx N V p rest rest' p' lv ls 0 0) (hB:w0.heap.size=B) (hBw:B≤w.heap.size) (o:Obj) (hov:OVB w4 (w.heap.size+2) v4 ls4) (hg:(wr.alloc o).grownBy w4 lv.ownBlock) (hl:ls4.length+rest'.length≤rest.length) :
  BxS w4 (w.heap.size+1) lv 0 0∧SqSt w0 w (w4.setCell ⟨w.heap.size+1,0,none⟩ v4) B Q R x L cx N V p rest rest' p' v4 ls4 0 0:=by
 have hA:Only (fun _=>False) wr (wr.alloc o):=Only.ofBelow ((Below.refl _ _).alloc nl o) nl
 have hG:=Only.ofGrownQ hg
 have hsz:=h.on.size
 have n1:¬lv.ownBlock=some (w.heap.size+1):=fun e=>h.ov.notBox h.one _ e rfl
 have n2:¬lv.ownBlock=some w.heap.size:=fun e=>h.ov.notBox h.res _ e rfl
 have nQ:¬lv.ownBlock=some Q:=fun e=>by have:=h.ov.blk e;have:=h.QR.1;omega
 have nR:¬lv.ownBlock=some R:=fun e=>by have:=h.ov.blk e;have:=h.QR.2;omega
 have hx4:BxS w4 (w.heap.size+1) lv 0 0:=(h.one.only hA (by simp)).only hG n1
 have hr4:BxS w4 w.heap.size (.slice none 0 0) 0 0:=(h.res.only hA (by simp)).only hG n2
 have hst:=set_only w4 (w.heap.size+1) 0 v4
 refine ⟨hx4,⟨((h.sr.only hA (by simp)).only hG nQ).only hst (by have:=h.QR.1;omega),((h.rd.only hA (by simp)).only hG nR).only hst (by have:=h.QR.2;omega),h.le,hx4.set0 v4,hr4.only hst (by omega),hov.stayK hst (hov.notBox hx4),?_,h.QR,hl,?_⟩⟩
 ·exact ((h.on.alloc o).grown hg (fun k hk=>.inr (by have:=h.ov.blk hk;omega))).setCell (p:=⟨w.heap.size+1,0,none⟩) (.inr (by simp)) _
 ·have hb1:Below B w0 (wr.alloc o):=h.bel.alloc (by have:=h.bel.size;omega) o
  exact (hb1.grown hg (by have:=h.bel.size;simp;omega) (fun k hk=>by have:=h.ov.blk hk;omega)).setCell (p:=⟨w.heap.size+1,0,none⟩) (by simp;omega) _
theorem SqSt.moved {w0 w wr w2:World} {B Q R:Nat} {x:Option Addr} {L cx N V p:Nat} {rest rest' t:List Int} {p' p2:Nat} {lv:Value} {ls:List Int} {n1 d1:Int} (h:SqSt w0 w wr B Q R x L cx N V p rest rest' p' lv ls n1 d1) (hB:w0.heap.size=B) (hBw:B≤w.heap.size) (hs:SR w0 w2 B Q R t) (hr:RD w2 B R x L cx N p2) (ho:Only (fun b=>b=Q∨b=R) wr w2) (hle:p2≤N) (hl:ls.length+t.length≤rest.length) (hQR:B≤Q∧B≤R) :
  SqSt w0 w w2 B Q R x L cx N V p rest t p2 lv ls n1 d1:=by
 have hq:=h.QR
 exact ⟨hs,hr,hle,h.one.only ho (by omega),h.res.only ho (by omega),h.ov.stayK ho (fun k hk=>by have:=h.ov.blk hk;omega),h.on.trans ho,hq,hl,h.bel.trans (ho.below (by have:=h.bel.size;omega) (fun k hk=>by rcases hk with rfl | rfl <;> omega))⟩
theorem SqSt.fin {w0 w wr:World} {B Q R:Nat} {x:Option Addr} {L cx N V p:Nat} {rest rest':List Int} {p':Nat} {lv:Value} {ls:List Int} {n1 d1:Int} (h:SqSt w0 w wr B Q R x L cx N V p rest rest' p' lv ls n1 d1) (v:Value) (n d:Int) (m:Nat) :
  SR w0 ((((wr.drewN m).setCell ⟨w.heap.size,0,none⟩ v).setCell ⟨w.heap.size,1,none⟩ (.int .i64 n)).setCell ⟨w.heap.size,2,none⟩ (.int .i64 d)) B Q R rest'∧RD ((((wr.drewN m).setCell ⟨w.heap.size,0,none⟩ v).setCell ⟨w.heap.size,1,none⟩ (.int .i64 n)).setCell ⟨w.heap.size,2,none⟩ (.int .i64 d)) B R x L cx N p'∧OVB ((((wr.drewN m).setCell ⟨w.heap.size,0,none⟩ v).setCell ⟨w.heap.size,1,none⟩ (.int .i64 n)).setCell ⟨w.heap.size,2,none⟩ (.int .i64 d)) w.heap.size lv ls∧Only (fun b=>b=Q∨b=R) w ((((wr.drewN m).setCell ⟨w.heap.size,0,none⟩ v).setCell ⟨w.heap.size,1,none⟩ (.int .i64 n)).setCell ⟨w.heap.size,2,none⟩ (.int .i64 d)):=by
 have hm:Only (fun b=>b=w.heap.size) wr (wr.drewN m):=⟨rfl,rfl,rfl,Nat.le_refl _,fun _ _ _=>rfl⟩
 have hm2:Only (fun b=>b=Q∨b=R) w (wr.drewN m):=h.on.trans ⟨rfl,rfl,rfl,Nat.le_refl _,fun _ _ _=>rfl⟩
 have ho:Only (fun b=>b=w.heap.size) wr ((((wr.drewN m).setCell ⟨w.heap.size,0,none⟩ v).setCell ⟨w.heap.size,1,none⟩ (.int .i64 n)).setCell ⟨w.heap.size,2,none⟩ (.int .i64 d)):=((hm.setCell (p:=⟨w.heap.size,0,none⟩) (.inl rfl) _).setCell (p:=⟨w.heap.size,1,none⟩) (.inl rfl) _).setCell (p:=⟨w.heap.size,2,none⟩) (.inl rfl) _
 have hq:=h.QR
 refine ⟨h.sr.only ho (by omega),h.rd.only ho (by omega),(h.ov.stayK ho (h.ov.notBox h.res)).weak (by omega),?_⟩
 exact ((hm2.setCell (p:=⟨w.heap.size,0,none⟩) (.inr nl) _).setCell (p:=⟨w.heap.size,1,none⟩) (.inr nl) _).setCell (p:=⟨w.heap.size,2,none⟩) (.inr nl) _
theorem SqSt.setN {w0 w wr:World} {B Q R:Nat} {x:Option Addr} {L cx N V p:Nat} {rest rest':List Int} {p':Nat} {lv:Value} {ls:List Int} {n1 d1:Int} (h:SqSt w0 w wr B Q R x L cx N V p rest rest' p' lv ls n1 d1) (hBw:B≤w.heap.size) (n:Int):SqSt w0 w (wr.setCell ⟨w.heap.size+1,1,none⟩ (.int .i64 n)) B Q R x L cx N V p rest rest' p' lv ls n d1:=by
 have ho:=set_only wr (w.heap.size+1) 1 (.int .i64 n)
 have hq:=h.QR
 exact ⟨h.sr.only ho (by omega),h.rd.only ho (by omega),h.le,h.one.set1 n,h.res.only ho (by omega),h.ov.stayK ho (h.ov.notBox h.one),h.on.setCell (p:=⟨w.heap.size+1,1,none⟩) (.inr (by simp)) _,hq,h.len,h.bel.setCell (p:=⟨w.heap.size+1,1,none⟩) (by simp;omega) _⟩
theorem SqSt.setD {w0 w wr:World} {B Q R:Nat} {x:Option Addr} {L cx N V p:Nat} {rest rest':List Int} {p':Nat} {lv:Value} {ls:List Int} {n1 d1:Int} (h:SqSt w0 w wr B Q R x L cx N V p rest rest' p' lv ls n1 d1) (hBw:B≤w.heap.size) (d:Int):SqSt w0 w (wr.setCell ⟨w.heap.size+1,2,none⟩ (.int .i64 d)) B Q R x L cx N V p rest rest' p' lv ls n1 d:=by
 have ho:=set_only wr (w.heap.size+1) 2 (.int .i64 d)
 have hq:=h.QR
 exact ⟨h.sr.only ho (by omega),h.rd.only ho (by omega),h.le,h.one.set2 d,h.res.only ho (by omega),h.ov.stayK ho (h.ov.notBox h.one),h.on.setCell (p:=⟨w.heap.size+1,2,none⟩) (.inr (by simp)) _,hq,h.len,h.bel.setCell (p:=⟨w.heap.size+1,2,none⟩) (by simp;omega) _⟩
theorem SqSt.drew {w0 w wr:World} {B Q R:Nat} {x:Option Addr} {L cx N V p:Nat} {rest rest':List Int} {p':Nat} {lv:Value} {ls:List Int} {n1 d1:Int} (h:SqSt w0 w wr B Q R x L cx N V p rest rest' p' lv ls n1 d1) (m:Nat):SqSt w0 w (wr.drewN m) B Q R x L cx N V p rest rest' p' lv ls n1 d1:=by
 have ho:Only (fun _=>False) wr (wr.drewN m):=⟨rfl,rfl,rfl,Nat.le_refl _,fun _ _ _=>rfl⟩
 exact ⟨h.sr.only ho (by simp),h.rd.only ho (by simp),h.le,h.one.only ho (by simp),h.res.only ho (by simp),h.ov.stayK ho (by simp),h.on.trans ⟨rfl,rfl,rfl,Nat.le_refl _,fun _ _ _=>rfl⟩,h.QR,h.len,⟨h.bel.os,h.bel.tape,h.bel.output,h.bel.size,h.bel.block⟩⟩
theorem uqE_end (N V p':Nat) (ls:List Int) (out:List (List Int × Int × Int)) (h:ls≠[]):uqE N (uq N V [] p' ls 0 out)=uqE N (uq N V [] p' [] 0 (out++[(ls,0,0)])):=by
 simp [uq,uqE,h]
theorem seq_any (B Q R:Nat) (rest:List Int) (x:Option Addr) (cx:Nat) (zs:List Int) (N V p:Nat) (w0 w:World) (hB:w0.heap.size=B) (hbel:Below B w0 w) (hS:SR w0 w B Q R rest) (hR:RD w B R x zs.length cx N p) (hp:p≤N) (hb:Byt w0 x zs) (hz:zs=enc N V) (hN:N≤4096) (hr:∀ z ∈ rest,0≤z∧z<40) (hl:rest.length≤300) (hne:rest≠[])
  (s0:Sent w0 5) (s1:Sent w0 11) (s2:Sent w0 7) (hG:5<B∧11<B∧7<B) :
  Calls Tryz.prog 66 #[.pointer (some ⟨Q,0,none⟩)] w fun e w'=>sqR w0 w w' B Q R x zs.length cx N V p rest e:=by
 have hBw:B≤w.heap.size:=by have:=hbel.size;omega
 have hQR:Q<w.heap.size∧R<w.heap.size:=⟨by obtain ⟨la,lc,h1,_⟩:=hS;exact (Array.getElem?_eq_some_iff.1 h1).1,(Array.getElem?_eq_some_iff.1 hR.1).1⟩
 have hQB:B≤Q∧B≤R:=⟨by obtain ⟨la,lc,_,_,_,h4⟩:=hS;exact h4,hR.2.1⟩
 have HST:Hid (SqSt w0 w ((w.alloc (Obj.cells #[.slice none 0 0,.int .i64 0,.int .i64 0] 37)).alloc (Obj.cells #[.slice none 0 0,.int .i64 0,.int .i64 0] 37)) B Q R x zs.length cx N V p rest rest p (.slice none 0 0) [] 0 0):=by
  have hA:Below w.heap.size w ((w.alloc (Obj.cells #[.slice none 0 0,.int .i64 0,.int .i64 0] 37)).alloc (Obj.cells #[.slice none 0 0,.int .i64 0,.int .i64 0] 37)):=((Below.refl _ _).alloc nl _).alloc (by simp) _
  have hO:Only (fun b=>b=Q∨b=R) w ((w.alloc (Obj.cells #[.slice none 0 0,.int .i64 0,.int .i64 0] 37)).alloc (Obj.cells #[.slice none 0 0,.int .i64 0,.int .i64 0] 37)):=Only.ofBelow hA nl
  have hF:Only (fun _=>False) w ((w.alloc (Obj.cells #[.slice none 0 0,.int .i64 0,.int .i64 0] 37)).alloc (Obj.cells #[.slice none 0 0,.int .i64 0,.int .i64 0] 37)):=Only.ofBelow hA nl
  refine ⟨hS.only hF (by simp),hR.only hF (by simp),hp,?_,?_,OVB.nil _ _,hO,hQR,by simp,hbel.trans (hA.mono hBw)⟩
  ·have:=heap_alloc_new (w.alloc (Obj.cells #[.slice none 0 0,.int .i64 0,.int .i64 0] 37)) (Obj.cells #[.slice none 0 0,.int .i64 0,.int .i64 0] 37)
   unfold BxS
   simpa using this
  ·have h1:BxS (w.alloc (Obj.cells #[.slice none 0 0,.int .i64 0,.int .i64 0] 37)) w.heap.size (.slice none 0 0) 0 0:=heap_alloc_new w _
   exact h1.only (Only.ofBelow (S:=fun _=>False) ((Below.refl _ _).alloc nl _) nl) (by simp)
 have HE:Hid (Sent w0 5∧Sent w0 11∧Sent w0 7∧w0.heap.size=B∧Byt w0 x zs∧zs=enc N V):=⟨s0,s1,s2,hB,hb,hz⟩
 have HR:Hid (∀ z ∈ rest,0≤z∧z<40):=hr
 have HNE:Hid (rest≠[]):=hne
 have HLE:Hid (rest.length≤300∧True):=⟨hl,trivial⟩
 clear hS hR s0 s1 s2 hb hz hB hbel hr hne hl
 go_enter Tryz.func66,Tryz.ntmps66
 go_wp2
 generalize (w.alloc (Obj.cells #[.slice none 0 0,.int .i64 0,.int .i64 0] 37)).alloc (Obj.cells #[.slice none 0 0,.int .i64 0,.int .i64 0] 37)=W1 at *
 go_loopw [5] (fun _ wr=>∃ (rest':List Int) (p':Nat) (la:Option Addr) (lc:Nat) (ls:List Int),SqSt w0 w wr B Q R x zs.length cx N V p rest rest' p' (.slice la ls.length lc) ls 0 0∧(∀ out,uq N V rest' p' ls 0 out=uq N V rest p [] 0 out)∧(∀ z ∈ rest',z ∈ rest)∧(rest'≠[]∨ls≠[])) (fun _ wr=>lenAt Q wr)
 case atStart=>exact ⟨rest,p,none,0,[],HST.out,fun _=>rfl,fun _ h=>h,.inl HNE.out⟩
 case round=>
  clear HST
  obtain ⟨rest',p',la,lc,ls,hst,hu,hsub,hnn⟩:=hrel
  have HT:Hid (SqSt w0 w wr B Q R x zs.length cx N V p rest rest' p' (.slice la ls.length lc) ls 0 0∧(∀ out,uq N V rest' p' ls 0 out=uq N V rest p [] 0 out)∧(∀ z ∈ rest',z ∈ rest)∧(rest'≠[]∨ls≠[])):=⟨hst,hu,hsub,hnn⟩
  have HLA:Hid (lenAt Q wr=rest'.length∧True):=⟨hst.sr.lenAt,trivial⟩
  have hpN:=hst.le
  have hll:ls.length≤300:=by have:=hst.len;have:=HLE.out.1;omega
  have HC:=atLetter_any B Q R rest' w0 wr HE.out.2.2.2.1 hst.bel hst.sr (fun z hz=>HR.out z (hsub z hz))
  clear hst hu hsub hnn
  cases rest' with
  | nil=>
   simp only [List.length_nil] at HC
   have hdec:decide (0<0∧([]:List Int).getD 0 0<16)=false:=by simp
   rw [hdec] at HC
   clear hdec
   go_wp2_with fail
   refine HC.mono ?_
   clear HC
   rintro e w9 ⟨rfl,hw9⟩
   rw [hw9]
   clear hw9
   obtain ⟨qa,qc,hq1,-⟩:=HT.out.1.sr
   have q0:wr.cell? ⟨Q,0,none⟩=some (.slice qa 0 qc):=cellRR (j:=0) hq1 rfl
   have o0:=HT.out.1.one.c0
   have o1:=HT.out.1.one.c1
   have o2:=HT.out.1.one.c2
   have r0:=HT.out.1.res.c0
   have r1:=HT.out.1.res.c1
   have r2:=HT.out.1.res.c2
   have f0:=HT.out.1.res.fz 0
   have f1:=HT.out.1.res.fz 1
   have f2:=HT.out.1.res.fz 2
   clear hq1
   go_wp2
   have HF:=HT.out.1.fin (.slice la ls.length lc) 0 0 0
   have HY:Hid (sqR w0 w (((wr.setCell ⟨w.heap.size,0,none⟩ (.slice la ls.length lc)).setCell ⟨w.heap.size,1,none⟩ (.int .i64 0)).setCell ⟨w.heap.size,2,none⟩ (.int .i64 0)) B Q R x zs.length cx N V p rest (.returned (.tuple #[.agg #[.slice la ls.length lc,.int .i64 0,.int .i64 0],.nilIface]))):=by
    have hls:ls≠[]:=HT.out.2.2.2.resolve_left (by simp)
    refine .inl ⟨.slice la ls.length lc,ls,0,0,[],p',rfl,HF.1,HF.2.1,hpN,HF.2.2.1,HF.2.2.2,⟨HT.out.1.len,?_⟩,by simp,by simp,fun out=>?_⟩
    ·have:=HT.out.1.len
     have:=List.length_pos_iff.2 hls
     simp only [List.length_nil] at *
     omega
    ·rw [←HT.out.2.1 out]
     exact uqE_end N V p' ls out hls
   clear HF
   exact bodyPost_ret (v:=.tuple #[.agg #[.slice la ls.length lc,.int .i64 0,.int .i64 0],.nilIface]) (by simp [results,Tryz.results66,go_sem,r0,r1,r2]) rfl HY.out
  | cons s t=>
   have hsr:=HR.out s (HT.out.2.2.1 s (by simp))
   have hdec:decide (0<(s :: t).length∧(s :: t).getD 0 0<16)=decide (s<16):=by simp
   rw [hdec] at HC
   clear hdec
   by_cases hs16:s<16
   ·rw [decide_eq_true hs16] at HC
    by_cases h4:p'+4≤N
    ·have HC2:=letter_yes B Q R s t x cx zs N V p' w0 wr HE.out.2.2.2.1 HT.out.1.bel HT.out.1.sr HT.out.1.rd HE.out.2.2.2.2.1 HE.out.2.2.2.2.2 hN h4 ⟨hsr.1,hs16⟩
     go_wp2_with fail
     refine HC.mono ?_
     clear HC
     rintro e w9 ⟨rfl,hw9⟩
     rw [hw9]
     clear hw9
     go_wp2_with fail
     refine HC2.mono ?_
     clear HC2
     rintro e w2 ⟨rfl,hsr2,hrd2,ho2⟩
     have hbt:=bt_lt V p' 4
     have hlen:=HT.out.1.len
     simp only [List.length_cons] at hlen
     have HU3:Hid (∀ out,uq N V t (p'+4) (ls++[16*s+(bt V p' 4:Nat)]) 0 out=uq N V rest p [] 0 out):=fun out=>by rw [←HT.out.2.1 out];exact (uq_let h4 rfl hs16).symm
     have HT2:Hid (SqSt w0 w w2 B Q R x zs.length cx N V p rest t (p'+4) (.slice la ls.length lc) ls 0 0):=HT.out.1.moved HE.out.2.2.2.1 hBw hsr2 hrd2 ho2 h4 (by omega) hQB
     have HSUB:Hid (∀ z ∈ t,z ∈ rest):=fun z hz=>HT.out.2.2.1 z (List.mem_cons_of_mem _ hz)
     have o0:=HT2.out.one.c0
     have hzb:0≤16*s+(bt V p' 4:Nat)∧16*s+(bt V p' 4:Nat)≤255:=by omega
     have hz2:w.heap.size≤w2.heap.size:=HT2.out.on.size
     have hx2:=HT2.out.one.lt
     clear hsr2 hrd2 ho2 hbt
     generalize 16*s+(bt V p' 4:Nat)=z at *
     have hl4:(ls++[z]).length=ls.length+1:=by simp
     have HL4:Hid ((ls++[z]).length=ls.length+1):=hl4
     go_wp2_with (at_builtin;(refine wpList_append_b1 rfl (.tmp 21) (.tmp 23) rfl (w.heap.size+2) (.slice la ls.length lc) ls rfl (HT2.out.ov.alloc _) w2.heap.size 1 z rfl (by simp) hzb (by omega) (by simp;omega) ?_);intro v4 w4 hown hgrow hat;obtain ⟨a4,c4,rfl⟩:=hown.form;rw [hl4] at hown ⊢;have k4:=(HT2.out.app HE.out.2.2.2.1 hBw _ hown hgrow (by rw [List.length_append];simp;omega)).1;have k0:=k4.c0;have kf:=k4.fz 0)
     have HT4:=(HT2.out.app HE.out.2.2.2.1 hBw _ hown hgrow (by rw [List.length_append];simp;omega)).2
     go_roundw
     case rel=>exact ⟨t,p'+4,a4,c4,ls++[z],by rw [HL4.out];exact HT4,HU3.out,HSUB.out,.inr (by simp)⟩
     case measure=>rw [HT4.sr.lenAt,HLA.out.1];simp
    ·have HC2:=letter_no B Q R (s :: t) x cx zs N p' w0 wr HE.out.2.2.2.1 HT.out.1.bel HT.out.1.sr HT.out.1.rd hN hpN h4 HE.out.1 HE.out.2.1 ⟨hG.1,hG.2.1⟩
     have HBAD:Hid (∀ out,uqE N (uq N V rest p [] 0 out)=none):=fun out=>by
      rw [←HT.out.2.1 out,uq_bad (.inl (by unfold wid;rw [if_neg (by omega),if_neg (by omega)];omega))]
      rfl
     go_wp2_with fail
     refine HC.mono ?_
     clear HC
     rintro e w9 ⟨rfl,hw9⟩
     rw [hw9]
     clear hw9
     go_wp2_with fail
     refine HC2.mono ?_
     clear HC2
     rintro e w2 ⟨⟨T,y,rfl⟩,m,rfl⟩
     have r0:=HT.out.1.res.c0
     have r1:=HT.out.1.res.c1
     have r2:=HT.out.1.res.c2
     have f0:=HT.out.1.res.fz 0
     have f1:=HT.out.1.res.fz 1
     have f2:=HT.out.1.res.fz 2
     have HF:=HT.out.1.fin (.slice none 0 0) 0 0 m
     have HY:Hid (sqR w0 w ((((wr.drewN m).setCell ⟨w.heap.size,0,none⟩ (.slice none 0 0)).setCell ⟨w.heap.size,1,none⟩ (.int .i64 0)).setCell ⟨w.heap.size,2,none⟩ (.int .i64 0)) B Q R x zs.length cx N V p rest (.returned (.tuple #[.agg #[.slice none 0 0,.int .i64 0,.int .i64 0],.iface T y]))):=
      .inr ⟨⟨_,_,_,_,_,_,_,rfl⟩,HBAD.out,HF.2.2.2⟩
     clear HF
     go_wp2
     exact bodyPost_ret (v:=.tuple #[.agg #[.slice none 0 0,.int .i64 0,.int .i64 0],.iface T y]) (by simp [results,Tryz.results66,go_sem,r0,r1,r2]) rfl HY.out
   ·rw [decide_eq_false hs16] at HC
    have hpw:=pow_wid hsr.2
    have hwd:=wid_le hsr.2
    by_cases hok1:s<28∧p'+(s-16).toNat≤N
    ·have HC2:=number_yes B Q R s t x cx zs N V p' w0 wr HE.out.2.2.2.1 HT.out.1.bel HT.out.1.sr HT.out.1.rd HE.out.2.2.2.2.1 HE.out.2.2.2.2.2 hN 16 (.inl rfl) ⟨by omega,by omega⟩ hok1.2
     have hwe:wid s=(s-16).toNat:=by unfold wid;rw [if_neg (by omega),if_pos (by omega)]
     rw [hwe] at hpw hwd
     obtain ⟨qa,qc,hq1,-⟩:=HT.out.1.sr
     have q0:wr.cell? ⟨Q,0,none⟩=some (.slice qa (t.length+1) qc):=cellRR (j:=0) hq1 rfl
     clear hq1
     go_wp2_with fail
     refine HC.mono ?_
     clear HC
     rintro e w9 ⟨rfl,hw9⟩
     rw [hw9]
     clear hw9
     go_wp2_with fail
     refine HC2.mono ?_
     clear HC2 q0
     rintro e w2 ⟨rfl,hsr2,hrd2,ho2⟩
     have hbt:=bt_lt V p' (s-16).toNat
     have hlen:=HT.out.1.len
     simp only [List.length_cons] at hlen
     have HU3:Hid (∀ out,uq N V t (p'+(s-16).toNat) ls (2 ^ (s-16).toNat+bt V p' (s-16).toNat+2) out=uq N V rest p [] 0 out):=fun out=>by
      rw [←HT.out.2.1 out,uq_len (by rw [hwe];exact hok1.2) rfl (by omega) hok1.1,hwe]
     have HT2:Hid (SqSt w0 w w2 B Q R x zs.length cx N V p rest t (p'+(s-16).toNat) (.slice la ls.length lc) ls 0 0):=HT.out.1.moved HE.out.2.2.2.1 hBw hsr2 hrd2 ho2 hok1.2 (by omega) hQB
     have HSUB:Hid (∀ z ∈ t,z ∈ rest):=fun z hz=>HT.out.2.2.1 z (List.mem_cons_of_mem _ hz)
     have HLB:Hid (2 ^ (s-16).toNat+bt V p' (s-16).toNat≤4096∧True):=⟨by omega,trivial⟩
     have hp2:p'+(s-16).toNat≤N:=hok1.2
     have HLT:Hid (ls.length+t.length<rest.length):=by unfold Hid;omega
     clear hsr2 hrd2 ho2 hbt hok1 hwe hpw hwd HT
     generalize 2 ^ (s-16).toNat+bt V p' (s-16).toNat=D at *
     generalize p'+(s-16).toNat=p2 at *
     have o0:=HT2.out.one.c0
     have o1:=HT2.out.one.c1
     have o2:=HT2.out.one.c2
     have g1:=HT2.out.one.fz 1
     go_wp2_with fail
     have HD2:Hid (wrap64 (wrap64 ((D:Int)+3)-1)=((D+2:Nat):Int)∧True):=by
      refine ⟨?_,trivial⟩
      have:=HLB.out.1
      rw [IntWalk.wrap64_in ((D:Int)+3) (by omega),IntWalk.wrap64_in ((D:Int)+3-1) (by omega)]
      omega
     rw [HD2.out.1]
     have HT3:Hid (SqSt w0 w (w2.setCell ⟨w.heap.size+1,1,none⟩ (.int .i64 ((D+2:Nat):Int))) B Q R x zs.length cx N V p rest t p2 (.slice la ls.length lc) ls ((D+2:Nat):Int) 0):=HT2.out.setN hBw _
     clear HT2 o0 o1 o2 g1 HD2
     generalize w2.setCell ⟨w.heap.size+1,1,none⟩ (.int .i64 ((D+2:Nat):Int))=W3 at *
     by_cases hok2:∃ s2 t2,t=s2 :: t2∧28≤s2∧p2+(s2-28).toNat≤N
     ·obtain ⟨s2,t2,rfl,h28,hpp⟩:=hok2
      have hsr2:=HR.out s2 (HSUB.out s2 (by simp))
      have HC2:=number_yes B Q R s2 t2 x cx zs N V p2 w0 W3 HE.out.2.2.2.1 HT3.out.bel HT3.out.sr HT3.out.rd HE.out.2.2.2.2.1 HE.out.2.2.2.2.2 hN 28 (.inr rfl) ⟨h28,by omega⟩ hpp
      have hpw:=pow_wid hsr2.2
      have hwd:=wid_le hsr2.2
      have hwe:wid s2=(s2-28).toNat:=by unfold wid;rw [if_pos h28]
      rw [hwe] at hpw hwd
      refine HC2.mono ?_
      clear HC2
      rintro e w4 ⟨rfl,hsr4,hrd4,ho4⟩
      have hbt:=bt_lt V p2 (s2-28).toNat
      have hlen:=HLT.out
      simp only [List.length_cons] at hlen
      have HU4:Hid (∀ out,uq N V rest p [] 0 out=uq N V t2 (p2+(s2-28).toNat) [] 0 (out++[(ls,((D+2:Nat):Int),((2 ^ (s2-28).toNat+bt V p2 (s2-28).toNat:Nat):Int))])):=fun out=>by
       rw [←HU3.out out,uq_dst (by rw [hwe];exact hpp) (by omega) h28,hwe]
      have HT4:Hid (SqSt w0 w w4 B Q R x zs.length cx N V p rest t2 (p2+(s2-28).toNat) (.slice la ls.length lc) ls ((D+2:Nat):Int) 0):=HT3.out.moved HE.out.2.2.2.1 hBw hsr4 hrd4 ho4 hpp (by omega) hQB
      have HSB2:Hid (∀ z ∈ t2,z ∈ rest):=fun z hz=>HSUB.out z (List.mem_cons_of_mem _ hz)
      have HEB:Hid (2 ^ (s2-28).toNat+bt V p2 (s2-28).toNat≤4096∧p2+(s2-28).toNat≤N):=⟨by omega,hpp⟩
      have HLX:Hid (ls.length+t2.length≤rest.length∧t2.length<rest.length):=by unfold Hid;omega
      clear hsr4 hrd4 ho4 hbt hpp hwe hpw hwd HT3 hlen
      generalize 2 ^ (s2-28).toNat+bt V p2 (s2-28).toNat=E at *
      generalize p2+(s2-28).toNat=p3 at *
      have HT5:Hid (SqSt w0 w (w4.setCell ⟨w.heap.size+1,2,none⟩ (.int .i64 (E:Nat))) B Q R x zs.length cx N V p rest t2 p3 (.slice la ls.length lc) ls ((D+2:Nat):Int) (E:Nat)):=HT4.out.setD hBw _
      have k2:=HT4.out.one.c2
      have kf:=HT4.out.one.fz 2
      have o0:=HT5.out.one.c0
      have o1:=HT5.out.one.c1
      have o2:=HT5.out.one.c2
      have r0:=HT5.out.res.c0
      have r1:=HT5.out.res.c1
      have r2:=HT5.out.res.c2
      have f0:=HT5.out.res.fz 0
      have f1:=HT5.out.res.fz 1
      have f2:=HT5.out.res.fz 2
      have HF:=HT5.out.fin (.slice la ls.length lc) ((D+2:Nat):Int) (E:Nat) 0
      have HY:Hid (sqR w0 w ((((w4.setCell ⟨w.heap.size+1,2,none⟩ (.int .i64 (E:Nat))).setCell ⟨w.heap.size,0,none⟩ (.slice la ls.length lc)).setCell ⟨w.heap.size,1,none⟩ (.int .i64 ((D+2:Nat):Int))).setCell ⟨w.heap.size,2,none⟩ (.int .i64 (E:Nat))) B Q R x zs.length cx N V p rest (.returned (.tuple #[.agg #[.slice la ls.length lc,.int .i64 ((D+2:Nat):Int),.int .i64 (E:Nat)],.nilIface]))):=
       .inl ⟨.slice la ls.length lc,ls,((D+2:Nat):Int),(E:Nat),t2,p3,rfl,HF.1,HF.2.1,HEB.out.2,HF.2.2.1,HF.2.2.2,HLX.out,by have:=HLB.out.1;have:=HEB.out.1;omega,HSB2.out,fun out=>by rw [HU4.out out]⟩
      clear HF
      generalize ((D+2:Nat):Int)=DI at *
      go_wp2
      exact bodyPost_ret (v:=.tuple #[.agg #[.slice la ls.length lc,.int .i64 DI,.int .i64 (E:Nat)],.nilIface]) (by simp [results,Tryz.results66,go_sem,r0,r1,r2]) rfl HY.out
     ·have HBAD:Hid (∀ out,uqE N (uq N V rest p [] 0 out)=none):=fun out=>by
       rw [←HU3.out out]
       cases t with
       | nil=>simp [uq,uqE]
       | cons s2 t2=>
        rw [uq_bad (by
         by_cases h28:28≤s2
         ·refine .inl ?_
          have:wid s2=(s2-28).toNat:=by unfold wid;rw [if_pos h28]
          have:¬p2+(s2-28).toNat≤N:=fun h=>hok2 ⟨s2,t2,rfl,h28,h⟩
          omega
         ·exact .inr (by omega))]
        rfl
      have HC2:=number_no B Q R t x cx zs N p2 w0 W3 HE.out.2.2.2.1 HT3.out.bel HT3.out.sr HT3.out.rd hN hp2 28 (.inr rfl) (fun z hz=>HR.out z (HSUB.out z hz)) (fun s' t' he hs' h=>hok2 ⟨s',t',he,hs'.1,h⟩) HE.out.1 HE.out.2.1 HE.out.2.2.1 hG
      refine HC2.mono ?_
      clear HC2 hok2
      rintro e w4 ⟨⟨T,y,rfl⟩,m,rfl⟩
      have HT4:Hid (SqSt w0 w (W3.drewN m) B Q R x zs.length cx N V p rest t p2 (.slice la ls.length lc) ls ((D+2:Nat):Int) 0):=HT3.out.drew m
      clear HT3
      generalize W3.drewN m=w4 at *
      have HT5:Hid (SqSt w0 w (w4.setCell ⟨w.heap.size+1,2,none⟩ (.int .i64 0)) B Q R x zs.length cx N V p rest t p2 (.slice la ls.length lc) ls ((D+2:Nat):Int) 0):=HT4.out.setD hBw _
      have k2:=HT4.out.one.c2
      have kf:=HT4.out.one.fz 2
      have o0:=HT5.out.one.c0
      have o1:=HT5.out.one.c1
      have o2:=HT5.out.one.c2
      have r0:=HT5.out.res.c0
      have r1:=HT5.out.res.c1
      have r2:=HT5.out.res.c2
      have f0:=HT5.out.res.fz 0
      have f1:=HT5.out.res.fz 1
      have f2:=HT5.out.res.fz 2
      have HF:=HT5.out.fin (.slice la ls.length lc) ((D+2:Nat):Int) 0 0
      have HY:Hid (sqR w0 w ((((w4.setCell ⟨w.heap.size+1,2,none⟩ (.int .i64 0)).setCell ⟨w.heap.size,0,none⟩ (.slice la ls.length lc)).setCell ⟨w.heap.size,1,none⟩ (.int .i64 ((D+2:Nat):Int))).setCell ⟨w.heap.size,2,none⟩ (.int .i64 0)) B Q R x zs.length cx N V p rest (.returned (.tuple #[.agg #[.slice la ls.length lc,.int .i64 ((D+2:Nat):Int),.int .i64 0],.iface T y]))):=
       .inr ⟨⟨_,_,_,_,_,_,_,rfl⟩,HBAD.out,HF.2.2.2⟩
      clear HF
      generalize ((D+2:Nat):Int)=DI at *
      go_wp2
      exact bodyPost_ret (v:=.tuple #[.agg #[.slice la ls.length lc,.int .i64 DI,.int .i64 0],.iface T y]) (by simp [results,Tryz.results66,go_sem,r0,r1,r2]) rfl HY.out
    ·have HC2:=number_no B Q R (s :: t) x cx zs N p' w0 wr HE.out.2.2.2.1 HT.out.1.bel HT.out.1.sr HT.out.1.rd hN hpN 16 (.inl rfl) (fun z hz=>HR.out z (HT.out.2.2.1 z hz)) (fun s' t' he hs'=>by
      obtain ⟨rfl,rfl⟩:s=s'∧t=t':=by simpa using he
      omega) HE.out.1 HE.out.2.1 HE.out.2.2.1 hG
     have HBAD:Hid (∀ out,uqE N (uq N V rest p [] 0 out)=none):=fun out=>by
      rw [←HT.out.2.1 out,uq_bad (by
       by_cases h28:28≤s
       ·exact .inr (by omega)
       ·refine .inl ?_
        have:wid s=(s-16).toNat:=by unfold wid;rw [if_neg h28,if_pos (by omega)]
        omega)]
      rfl
     obtain ⟨qa,qc,hq1,-⟩:=HT.out.1.sr
     have q0:wr.cell? ⟨Q,0,none⟩=some (.slice qa (t.length+1) qc):=cellRR (j:=0) hq1 rfl
     clear hq1
     go_wp2_with fail
     refine HC.mono ?_
     clear HC
     rintro e w9 ⟨rfl,hw9⟩
     rw [hw9]
     clear hw9
     go_wp2_with fail
     refine HC2.mono ?_
     clear HC2 q0
     rintro e w2 ⟨⟨T,y,rfl⟩,m,rfl⟩
     have r0:=HT.out.1.res.c0
     have r1:=HT.out.1.res.c1
     have r2:=HT.out.1.res.c2
     have f0:=HT.out.1.res.fz 0
     have f1:=HT.out.1.res.fz 1
     have f2:=HT.out.1.res.fz 2
     have HF:=HT.out.1.fin (.slice none 0 0) 0 0 m
     have HY:Hid (sqR w0 w ((((wr.drewN m).setCell ⟨w.heap.size,0,none⟩ (.slice none 0 0)).setCell ⟨w.heap.size,1,none⟩ (.int .i64 0)).setCell ⟨w.heap.size,2,none⟩ (.int .i64 0)) B Q R x zs.length cx N V p rest (.returned (.tuple #[.agg #[.slice none 0 0,.int .i64 0,.int .i64 0],.iface T y]))):=
      .inr ⟨⟨_,_,_,_,_,_,_,rfl⟩,HBAD.out,HF.2.2.2⟩
     clear HF
     go_wp2
     exact bodyPost_ret (v:=.tuple #[.agg #[.slice none 0 0,.int .i64 0,.int .i64 0],.iface T y]) (by simp [results,Tryz.results66,go_sem,r0,r1,r2]) rfl HY.out
end Go.Proofs.YtfeokafkhnbdiaaGreatDoor
