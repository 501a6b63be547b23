import Derived.Test.YtjmcjbmjgpponaaGreatDoorUs2
set_option maxRecDepth 20000
set_option maxHeartbeats 16000000
namespace Go.Proofs.YtjmcjbmjgpponaaGreatDoor
open Go.RowKit
set_option linter.unusedVariables false
set_option linter.unusedSimpArgs false
def lenAt (Q:Nat) (w:World):Nat:=match w.cell? ⟨Q,0,none⟩ with | some v=>z8a v | none=>0
theorem SR.lenAt {w0 w:World} {B Q R:Nat} {rest:List Int} (h:SR w0 w B Q R rest):lenAt Q w=rest.length:=by
 obtain ⟨la,lc,h1,_⟩:=h;unfold Go.Proofs.YtjmcjbmjgpponaaGreatDoor.lenAt;rw [zd (j:=0) h1 rfl]
 rfl
def BxS (w:World) (X:Nat) (v:Value) (n d:Int):Prop:=w.heap[X]?=some (.cells #[v,.int .i64 n,.int .i64 d] 146 (0,0))
theorem BxS.only {S:Nat->Prop} {w w':World} {X:Nat} {v:Value} {n d:Int} (h:BxS w X v n d) (ho:Only S w w') (hs:¬S X):BxS w' X v n d:=(ho.block X (Array.getElem?_eq_some_iff.1 h).1 hs).trans h
theorem BxS.c0 {w:World} {X:Nat} {v:Value} {n d:Int} (h:BxS w X v n d):w.cell? ⟨X,0,none⟩=some v:=zd (j:=0) h rfl
theorem BxS.c1 {w:World} {X:Nat} {v:Value} {n d:Int} (h:BxS w X v n d):w.cell? ⟨X,1,none⟩=some (.int .i64 n):=zd (j:=1) h rfl
theorem BxS.c2 {w:World} {X:Nat} {v:Value} {n d:Int} (h:BxS w X v n d):w.cell? ⟨X,2,none⟩=some (.int .i64 d):=zd (j:=2) h rfl
theorem BxS.fz {w:World} {X:Nat} {v:Value} {n d:Int} (h:BxS w X v n d) (j:Nat):w.frozen? ⟨X,j,none⟩=false:=frozen_of_row w X j _ _ h
theorem BxS.lt {w:World} {X:Nat} {v:Value} {n d:Int} (h:BxS w X v n d):X<w.heap.size:=(Array.getElem?_eq_some_iff.1 h).1
theorem BxS.set0 {w:World} {X:Nat} {v:Value} {n d:Int} (h:BxS w X v n d) (u:Value):BxS (w.setCell ⟨X,0,none⟩ u) X u n d:=by
 unfold BxS;rw [heap_setCell_same _ X 0 _ _ _ h]
 simp
theorem BxS.set1 {w:World} {X:Nat} {v:Value} {n d:Int} (h:BxS w X v n d) (u:Int):BxS (w.setCell ⟨X,1,none⟩ (.int .i64 u)) X v u d:=by
 unfold BxS;rw [heap_setCell_same _ X 1 _ _ _ h]
 simp
theorem BxS.set2 {w:World} {X:Nat} {v:Value} {n d:Int} (h:BxS w X v n d) (u:Int):BxS (w.setCell ⟨X,2,none⟩ (.int .i64 u)) X v n u:=by
 unfold BxS;rw [heap_setCell_same _ X 2 _ _ _ h]
 simp
theorem z89 (w:World) (X j:Nat) (v:Value):Only (fun b=>b=X) w (w.setCell ⟨X,j,none⟩ v):=Only.setCell (Only.refl (fun b=>b=X) w) (p:=⟨X,j,none⟩) (.inl rfl) _
theorem OVB.notBox {w:World} {B:Nat} {v:Value} {zs:List Int} (h:OVB w B v zs) {X:Nat} {u:Value} {n d:Int} (hx:BxS w X u n d):∀ k,v.ownBlock=some k->¬k=X:=by
 rintro k hk rfl;exact h.blk_ne hx (by decide) hk.symm
theorem OVB.stayK {S:Nat->Prop} {w w':World} {B:Nat} {v:Value} {zs:List Int} (h:OVB w B v zs) (ho:Only S w w') (hs:∀ k,v.ownBlock=some k->¬S k):OVB w' B v zs:=by
 refine ⟨⟨h.1.1,?_⟩,h.2⟩;rcases h.1.2 with h' | ⟨g,cap,cur,h',hg,hh,r⟩
 ·exact .inl h'
 ·exact .inr ⟨g,cap,cur,h',hg,(ho.block g (Array.getElem?_eq_some_iff.1 hh).1 (hs g (by rw [h'];rfl))).trans hh,r⟩
structure SqSt (w0 w wr:World) (B Q R:Nat) (x:Option Addr) (L cx N V p:Nat) (rest rest':List Int) (p':Nat) (lv:Value) (ls:List Int) (n1 d1:Int):Prop where
 sr:SR w0 wr B Q R rest'
 rd:RD wr B R x L cx N p'
 le:p'<=N
 one:BxS wr (w.heap.size+1) lv n1 d1
 res:BxS wr w.heap.size (.slice none 0 0) 0 0
 ov:OVB wr (w.heap.size+2) lv ls
 on:Only (fun b=>b=Q\/b=R) w wr
 QR:Q<w.heap.size/\R<w.heap.size
 len:ls.length+rest'.length<=rest.length
 bel:Below B w0 wr
def sqR (w0 w w':World) (B Q R:Nat) (x:Option Addr) (L cx N V p:Nat) (rest:List Int) (e:Ending):Prop:=
 (∃ (lv:Value) (ls:List Int) (n d:Int) (rest':List Int) (p':Nat),e=.returned (.tuple #[.agg #[lv,.int .i64 n,.int .i64 d],.nilIface])/\SR w0 w' B Q R rest'/\RD w' B R x L cx N p'/\p'<=N/\OVB w' w.heap.size lv ls/\Only (fun b=>b=Q\/b=R) w w'/\(ls.length+rest'.length<=rest.length/\rest'.length<rest.length)/\(0<=n/\n<=10000/\0<=d/\d<=10000)/\(∀ z ∈ rest',z ∈ rest) /\
   ∀ out,uqE N (uq N V rest p [] 0 out)=uqE N (uq N V rest' p' [] 0 (out++[(ls,n,d)]))) \/
 ((∃ (T:TypeId) (y:Value) (sa:Option Addr) (sl sc:Nat) (c d:Int),e=.returned (.tuple #[.agg #[.slice sa sl sc,.int .i64 c,.int .i64 d],.iface T y]))/\(∀ out,uqE N (uq N V rest p [] 0 out)=none)/\Only (fun b=>b=Q\/b=R) w w')
theorem SqSt.app {w0 w wr w4:World} {B Q R:Nat} {x:Option Addr} {L cx N V p:Nat} {rest rest':List Int} {p':Nat} {lv v4:Value} {ls ls4:List Int} (h:SqSt w0 w wr B Q R x L cx N V p rest rest' p' lv ls 0 0) (hB:w0.heap.size=B) (hBw:B<=w.heap.size) (o:Obj) (hov:OVB w4 (w.heap.size+2) v4 ls4) (hg:(wr.alloc o).grownBy w4 lv.ownBlock) (hl:ls4.length+rest'.length<=rest.length) :
  BxS w4 (w.heap.size+1) lv 0 0/\SqSt w0 w (w4.setCell ⟨w.heap.size+1,0,none⟩ v4) B Q R x L cx N V p rest rest' p' v4 ls4 0 0:=by
 have hA:Only (fun _=>False) wr (wr.alloc o):=Only.ofBelow ((Below.refl _ _).alloc nl o) nl
 have hG:=Only.ofGrownQ hg;have hsz:=h.on.size;have n1:¬lv.ownBlock=some (w.heap.size+1):=fun e=>h.ov.notBox h.one _ e rfl
 have n2:¬lv.ownBlock=some w.heap.size:=fun e=>h.ov.notBox h.res _ e rfl
 have nQ:¬lv.ownBlock=some Q:=fun e=>by have:=h.ov.blk e;have:=h.QR.1;omega
 have nR:¬lv.ownBlock=some R:=fun e=>by have:=h.ov.blk e;have:=h.QR.2;omega
 have hx4:BxS w4 (w.heap.size+1) lv 0 0:=(h.one.only hA (by simp)).only hG n1
 have hr4:BxS w4 w.heap.size (.slice none 0 0) 0 0:=(h.res.only hA (by simp)).only hG n2
 have hst:=z89 w4 (w.heap.size+1) 0 v4;refine ⟨hx4,⟨((h.sr.only hA (by simp)).only hG nQ).only hst (by have:=h.QR.1;omega),((h.rd.only hA (by simp)).only hG nR).only hst (by have:=h.QR.2;omega),h.le,hx4.set0 v4,hr4.only hst (by omega),hov.stayK hst (hov.notBox hx4),?_,h.QR,hl,?_⟩⟩
 ·exact ((h.on.alloc o).grown hg (fun k hk=>.inr (by have:=h.ov.blk hk;omega))).setCell (p:=⟨w.heap.size+1,0,none⟩) (.inr (by simp)) _
 ·have hb1:Below B w0 (wr.alloc o):=h.bel.alloc (by have:=h.bel.size;omega) o
  exact (hb1.grown hg (by have:=h.bel.size;simp;omega) (fun k hk=>by have:=h.ov.blk hk;omega)).setCell (p:=⟨w.heap.size+1,0,none⟩) (by simp;omega) _
theorem SqSt.moved {w0 w wr w2:World} {B Q R:Nat} {x:Option Addr} {L cx N V p:Nat} {rest rest' t:List Int} {p' p2:Nat} {lv:Value} {ls:List Int} {n1 d1:Int} (h:SqSt w0 w wr B Q R x L cx N V p rest rest' p' lv ls n1 d1) (hB:w0.heap.size=B) (hBw:B<=w.heap.size) (hs:SR w0 w2 B Q R t) (hr:RD w2 B R x L cx N p2) (ho:Only (fun b=>b=Q\/b=R) wr w2) (hle:p2<=N) (hl:ls.length+t.length<=rest.length) (hQR:B<=Q/\B<=R) :
  SqSt w0 w w2 B Q R x L cx N V p rest t p2 lv ls n1 d1:=by
 have hq:=h.QR;exact ⟨hs,hr,hle,h.one.only ho (by omega),h.res.only ho (by omega),h.ov.stayK ho (fun k hk=>by have:=h.ov.blk hk;omega),h.on.trans ho,hq,hl,h.bel.trans (ho.below (by have:=h.bel.size;omega) (fun k hk=>by rcases hk with rfl | rfl <;> omega))⟩
theorem SqSt.fin {w0 w wr:World} {B Q R:Nat} {x:Option Addr} {L cx N V p:Nat} {rest rest':List Int} {p':Nat} {lv:Value} {ls:List Int} {n1 d1:Int} (h:SqSt w0 w wr B Q R x L cx N V p rest rest' p' lv ls n1 d1) (v:Value) (n d:Int) (m:Nat) :
  SR w0 ((((wr.drewN m).setCell ⟨w.heap.size,0,none⟩ v).setCell ⟨w.heap.size,1,none⟩ (.int .i64 n)).setCell ⟨w.heap.size,2,none⟩ (.int .i64 d)) B Q R rest'/\RD ((((wr.drewN m).setCell ⟨w.heap.size,0,none⟩ v).setCell ⟨w.heap.size,1,none⟩ (.int .i64 n)).setCell ⟨w.heap.size,2,none⟩ (.int .i64 d)) B R x L cx N p'/\OVB ((((wr.drewN m).setCell ⟨w.heap.size,0,none⟩ v).setCell ⟨w.heap.size,1,none⟩ (.int .i64 n)).setCell ⟨w.heap.size,2,none⟩ (.int .i64 d)) w.heap.size lv ls/\Only (fun b=>b=Q\/b=R) w ((((wr.drewN m).setCell ⟨w.heap.size,0,none⟩ v).setCell ⟨w.heap.size,1,none⟩ (.int .i64 n)).setCell ⟨w.heap.size,2,none⟩ (.int .i64 d)):=by
 have hm:Only (fun b=>b=w.heap.size) wr (wr.drewN m):=⟨rfl,rfl,rfl,Nat.le_refl _,fun _ _ _=>rfl⟩
 have hm2:Only (fun b=>b=Q\/b=R) w (wr.drewN m):=h.on.trans ⟨rfl,rfl,rfl,Nat.le_refl _,fun _ _ _=>rfl⟩
 have ho:Only (fun b=>b=w.heap.size) wr ((((wr.drewN m).setCell ⟨w.heap.size,0,none⟩ v).setCell ⟨w.heap.size,1,none⟩ (.int .i64 n)).setCell ⟨w.heap.size,2,none⟩ (.int .i64 d)):=((hm.setCell (p:=⟨w.heap.size,0,none⟩) (.inl rfl) _).setCell (p:=⟨w.heap.size,1,none⟩) (.inl rfl) _).setCell (p:=⟨w.heap.size,2,none⟩) (.inl rfl) _
 have hq:=h.QR;refine ⟨h.sr.only ho (by omega),h.rd.only ho (by omega),(h.ov.stayK ho (h.ov.notBox h.res)).weak (by omega),?_⟩
 exact ((hm2.setCell (p:=⟨w.heap.size,0,none⟩) (.inr nl) _).setCell (p:=⟨w.heap.size,1,none⟩) (.inr nl) _).setCell (p:=⟨w.heap.size,2,none⟩) (.inr nl) _
theorem SqSt.setN {w0 w wr:World} {B Q R:Nat} {x:Option Addr} {L cx N V p:Nat} {rest rest':List Int} {p':Nat} {lv:Value} {ls:List Int} {n1 d1:Int} (h:SqSt w0 w wr B Q R x L cx N V p rest rest' p' lv ls n1 d1) (hBw:B<=w.heap.size) (n:Int):SqSt w0 w (wr.setCell ⟨w.heap.size+1,1,none⟩ (.int .i64 n)) B Q R x L cx N V p rest rest' p' lv ls n d1:=by
 have ho:=z89 wr (w.heap.size+1) 1 (.int .i64 n);have hq:=h.QR;exact ⟨h.sr.only ho (by omega),h.rd.only ho (by omega),h.le,h.one.set1 n,h.res.only ho (by omega),h.ov.stayK ho (h.ov.notBox h.one),h.on.setCell (p:=⟨w.heap.size+1,1,none⟩) (.inr (by simp)) _,hq,h.len,h.bel.setCell (p:=⟨w.heap.size+1,1,none⟩) (by simp;omega) _⟩
theorem SqSt.setD {w0 w wr:World} {B Q R:Nat} {x:Option Addr} {L cx N V p:Nat} {rest rest':List Int} {p':Nat} {lv:Value} {ls:List Int} {n1 d1:Int} (h:SqSt w0 w wr B Q R x L cx N V p rest rest' p' lv ls n1 d1) (hBw:B<=w.heap.size) (d:Int):SqSt w0 w (wr.setCell ⟨w.heap.size+1,2,none⟩ (.int .i64 d)) B Q R x L cx N V p rest rest' p' lv ls n1 d:=by
 have ho:=z89 wr (w.heap.size+1) 2 (.int .i64 d);have hq:=h.QR;exact ⟨h.sr.only ho (by omega),h.rd.only ho (by omega),h.le,h.one.set2 d,h.res.only ho (by omega),h.ov.stayK ho (h.ov.notBox h.one),h.on.setCell (p:=⟨w.heap.size+1,2,none⟩) (.inr (by simp)) _,hq,h.len,h.bel.setCell (p:=⟨w.heap.size+1,2,none⟩) (by simp;omega) _⟩
theorem SqSt.drew {w0 w wr:World} {B Q R:Nat} {x:Option Addr} {L cx N V p:Nat} {rest rest':List Int} {p':Nat} {lv:Value} {ls:List Int} {n1 d1:Int} (h:SqSt w0 w wr B Q R x L cx N V p rest rest' p' lv ls n1 d1) (m:Nat):SqSt w0 w (wr.drewN m) B Q R x L cx N V p rest rest' p' lv ls n1 d1:=by
 have ho:Only (fun _=>False) wr (wr.drewN m):=⟨rfl,rfl,rfl,Nat.le_refl _,fun _ _ _=>rfl⟩
 exact ⟨h.sr.only ho (by simp),h.rd.only ho (by simp),h.le,h.one.only ho (by simp),h.res.only ho (by simp),h.ov.stayK ho (by simp),h.on.trans ⟨rfl,rfl,rfl,Nat.le_refl _,fun _ _ _=>rfl⟩,h.QR,h.len,⟨h.bel.os,h.bel.tape,h.bel.output,h.bel.size,h.bel.block⟩⟩
theorem znx (N V p':Nat) (ls:List Int) (out:List (List Int × Int × Int)) (h:ls≠[]):uqE N (uq N V [] p' ls 0 out)=uqE N (uq N V [] p' [] 0 (out++[(ls,0,0)])):=by
 simp [uq,uqE,h]
theorem zoc (B Q R:Nat) (rest:List Int) (x:Option Addr) (cx:Nat) (zs:List Int) (N V p:Nat) (w0 w:World) (hB:w0.heap.size=B) (hbel:Below B w0 w) (hS:SR w0 w B Q R rest) (hR:RD w B R x zs.length cx N p) (hp:p<=N) (hb:Byt w0 x zs) (hz:zs=enc N V) (hN:N<=4096) (hr:∀ z ∈ rest,0<=z/\z<40) (hl:rest.length<=300) (hne:rest≠[])
  (s0:Sent w0 10) (s1:Sent w0 17) (s2:Sent w0 21) (hG:10<B/\17<B/\21<B) :
  Calls Tryz.prog 169 #[.pointer (some ⟨Q,0,none⟩)] w fun e w'=>sqR w0 w w' B Q R x zs.length cx N V p rest e:=by
 have hBw:B<=w.heap.size:=by have:=hbel.size;omega
 have hQR:Q<w.heap.size/\R<w.heap.size:=⟨by obtain ⟨la,lc,h1,_⟩:=hS;exact (Array.getElem?_eq_some_iff.1 h1).1,(Array.getElem?_eq_some_iff.1 hR.1).1⟩
 have hQB:B<=Q/\B<=R:=⟨by obtain ⟨la,lc,_,_,_,h4⟩:=hS;exact h4,hR.2.1⟩
 have HST:Hid (SqSt w0 w ((w.alloc (Obj.cells #[.slice none 0 0,.int .i64 0,.int .i64 0] 146)).alloc (Obj.cells #[.slice none 0 0,.int .i64 0,.int .i64 0] 146)) B Q R x zs.length cx N V p rest rest p (.slice none 0 0) [] 0 0):=by
  have hA:Below w.heap.size w ((w.alloc (Obj.cells #[.slice none 0 0,.int .i64 0,.int .i64 0] 146)).alloc (Obj.cells #[.slice none 0 0,.int .i64 0,.int .i64 0] 146)):=((Below.refl _ _).alloc nl _).alloc (by simp) _
  have hO:Only (fun b=>b=Q\/b=R) w ((w.alloc (Obj.cells #[.slice none 0 0,.int .i64 0,.int .i64 0] 146)).alloc (Obj.cells #[.slice none 0 0,.int .i64 0,.int .i64 0] 146)):=Only.ofBelow hA nl
  have hF:Only (fun _=>False) w ((w.alloc (Obj.cells #[.slice none 0 0,.int .i64 0,.int .i64 0] 146)).alloc (Obj.cells #[.slice none 0 0,.int .i64 0,.int .i64 0] 146)):=Only.ofBelow hA nl
  refine ⟨hS.only hF (by simp),hR.only hF (by simp),hp,?_,?_,OVB.nil _ _,hO,hQR,by simp,hbel.trans (hA.mono hBw)⟩
  ·have:=heap_alloc_new (w.alloc (Obj.cells #[.slice none 0 0,.int .i64 0,.int .i64 0] 146)) (Obj.cells #[.slice none 0 0,.int .i64 0,.int .i64 0] 146)
   unfold BxS
   simpa using this
  ·have h1:BxS (w.alloc (Obj.cells #[.slice none 0 0,.int .i64 0,.int .i64 0] 146)) w.heap.size (.slice none 0 0) 0 0:=heap_alloc_new w _
   exact h1.only (Only.ofBelow (S:=fun _=>False) ((Below.refl _ _).alloc nl _) nl) (by simp)
 have HE:Hid (Sent w0 10/\Sent w0 17/\Sent w0 21/\w0.heap.size=B/\Byt w0 x zs/\zs=enc N V):=⟨s0,s1,s2,hB,hb,hz⟩;have HR:Hid (∀ z ∈ rest,0<=z/\z<40):=hr;have HNE:Hid (rest≠[]):=hne;have HLE:Hid (rest.length<=300/\True):=⟨hl,trivial⟩;clear hS hR s0 s1 s2 hb hz hB hbel hr hne hl
 go_enter Tryz.func169,Tryz.ntmps169
 go_wp2
 generalize (w.alloc (Obj.cells #[.slice none 0 0,.int .i64 0,.int .i64 0] 146)).alloc (Obj.cells #[.slice none 0 0,.int .i64 0,.int .i64 0] 146)=W1 at *
 go_loopw [5] (fun _ wr=>∃ (rest':List Int) (p':Nat) (la:Option Addr) (lc:Nat) (ls:List Int),SqSt w0 w wr B Q R x zs.length cx N V p rest rest' p' (.slice la ls.length lc) ls 0 0/\(∀ out,uq N V rest' p' ls 0 out=uq N V rest p [] 0 out)/\(∀ z ∈ rest',z ∈ rest)/\(rest'≠[]\/ls≠[])) (fun _ wr=>lenAt Q wr)
 case atStart=>exact ⟨rest,p,none,0,[],HST.out,fun _=>rfl,fun _ h=>h,.inl HNE.out⟩
 case round=>
  clear HST;obtain ⟨rest',p',la,lc,ls,hst,hu,hsub,hnn⟩:=hrel;have HT:Hid (SqSt w0 w wr B Q R x zs.length cx N V p rest rest' p' (.slice la ls.length lc) ls 0 0/\(∀ out,uq N V rest' p' ls 0 out=uq N V rest p [] 0 out)/\(∀ z ∈ rest',z ∈ rest)/\(rest'≠[]\/ls≠[])):=⟨hst,hu,hsub,hnn⟩;have HLA:Hid (lenAt Q wr=rest'.length/\True):=⟨hst.sr.lenAt,trivial⟩;have hpN:=hst.le;have hll:ls.length<=300:=by have:=hst.len;have:=HLE.out.1;omega
  have HC:=ze5 B Q R rest' w0 wr HE.out.2.2.2.1 hst.bel hst.sr (fun z hz=>HR.out z (hsub z hz))
  clear hst hu hsub hnn
  cases rest' with
  | nil=>
   simp only [List.length_nil] at HC
   have hdec:decide (0<0/\([]:List Int).getD 0 0<16)=false:=by simp
   rw [hdec] at HC;clear hdec;go_wp2_with fail
   refine HC.mono ?_;clear HC;rintro e w9 ⟨rfl,hw9⟩;rw [hw9];clear hw9;obtain ⟨qa,qc,hq1,-⟩:=HT.out.1.sr;have q0:wr.cell? ⟨Q,0,none⟩=some (.slice qa 0 qc):=zd (j:=0) hq1 rfl;have o0:=HT.out.1.one.c0;have o1:=HT.out.1.one.c1;have o2:=HT.out.1.one.c2;have r0:=HT.out.1.res.c0;have r1:=HT.out.1.res.c1;have r2:=HT.out.1.res.c2;have f0:=HT.out.1.res.fz 0;have f1:=HT.out.1.res.fz 1;have f2:=HT.out.1.res.fz 2
   clear hq1;go_wp2;have HF:=HT.out.1.fin (.slice la ls.length lc) 0 0 0;have HY:Hid (sqR w0 w (((wr.setCell ⟨w.heap.size,0,none⟩ (.slice la ls.length lc)).setCell ⟨w.heap.size,1,none⟩ (.int .i64 0)).setCell ⟨w.heap.size,2,none⟩ (.int .i64 0)) B Q R x zs.length cx N V p rest (.returned (.tuple #[.agg #[.slice la ls.length lc,.int .i64 0,.int .i64 0],.nilIface]))):=by
    have hls:ls≠[]:=HT.out.2.2.2.resolve_left (by simp)
    refine .inl ⟨.slice la ls.length lc,ls,0,0,[],p',rfl,HF.1,HF.2.1,hpN,HF.2.2.1,HF.2.2.2,⟨HT.out.1.len,?_⟩,by simp,by simp,fun out=>?_⟩
    ·have:=HT.out.1.len
     have:=List.length_pos_iff.2 hls
     simp only [List.length_nil] at *
     omega
    ·rw [<-HT.out.2.1 out]
     exact znx N V p' ls out hls
   clear HF;exact bodyPost_ret (v:=.tuple #[.agg #[.slice la ls.length lc,.int .i64 0,.int .i64 0],.nilIface]) (by simp [results,Tryz.results169,go_sem,r0,r1,r2]) rfl HY.out
  | cons s t=>
   have hsr:=HR.out s (HT.out.2.2.1 s (by simp))
   have hdec:decide (0<(s :: t).length/\(s :: t).getD 0 0<16)=decide (s<16):=by simp
   rw [hdec] at HC;clear hdec
   by_cases hs16:s<16
   ·rw [decide_eq_true hs16] at HC
    by_cases h4:p'+4<=N
    ·have HC2:=zgf B Q R s t x cx zs N V p' w0 wr HE.out.2.2.2.1 HT.out.1.bel HT.out.1.sr HT.out.1.rd HE.out.2.2.2.2.1 HE.out.2.2.2.2.2 hN h4 ⟨hsr.1,hs16⟩
     go_wp2_with fail
     refine HC.mono ?_;clear HC;rintro e w9 ⟨rfl,hw9⟩;rw [hw9];clear hw9;go_wp2_with fail
     refine HC2.mono ?_;clear HC2;rintro e w2 ⟨rfl,hsr2,hrd2,ho2⟩;have hbt:=z07 V p' 4;have hlen:=HT.out.1.len
     simp only [List.length_cons] at hlen
     have HU3:Hid (∀ out,uq N V t (p'+4) (ls++[16*s+(bt V p' 4:Nat)]) 0 out=uq N V rest p [] 0 out):=fun out=>by rw [<-HT.out.2.1 out];exact (zjs h4 rfl hs16).symm
     have HT2:Hid (SqSt w0 w w2 B Q R x zs.length cx N V p rest t (p'+4) (.slice la ls.length lc) ls 0 0):=HT.out.1.moved HE.out.2.2.2.1 hBw hsr2 hrd2 ho2 h4 (by omega) hQB
     have HSUB:Hid (∀ z ∈ t,z ∈ rest):=fun z hz=>HT.out.2.2.1 z (List.mem_cons_of_mem _ hz)
     have o0:=HT2.out.one.c0;have hzb:0<=16*s+(bt V p' 4:Nat)/\16*s+(bt V p' 4:Nat)<=255:=by omega
     have hz2:w.heap.size<=w2.heap.size:=HT2.out.on.size;have hx2:=HT2.out.one.lt;clear hsr2 hrd2 ho2 hbt;generalize 16*s+(bt V p' 4:Nat)=z at *;have hl4:(ls++[z]).length=ls.length+1:=by simp
     have HL4:Hid ((ls++[z]).length=ls.length+1):=hl4;go_wp2_with (at_builtin;(refine z17 rfl (.tmp 21) (.tmp 23) rfl (w.heap.size+2) (.slice la ls.length lc) ls rfl (HT2.out.ov.alloc _) w2.heap.size 1 z rfl (by simp) hzb (by omega) (by simp;omega) ?_);intro v4 w4 hown hgrow hat;obtain ⟨a4,c4,rfl⟩:=hown.form;rw [hl4] at hown ⊢;have k4:=(HT2.out.app HE.out.2.2.2.1 hBw _ hown hgrow (by rw [List.length_append];simp;omega)).1;have k0:=k4.c0;have kf:=k4.fz 0)
     have HT4:=(HT2.out.app HE.out.2.2.2.1 hBw _ hown hgrow (by rw [List.length_append];simp;omega)).2
     go_roundw
     case rel=>exact ⟨t,p'+4,a4,c4,ls++[z],by rw [HL4.out];exact HT4,HU3.out,HSUB.out,.inr (by simp)⟩
     case measure=>rw [HT4.sr.lenAt,HLA.out.1];simp
    ·have HC2:=ziq B Q R (s :: t) x cx zs N p' w0 wr HE.out.2.2.2.1 HT.out.1.bel HT.out.1.sr HT.out.1.rd hN hpN h4 HE.out.1 HE.out.2.1 ⟨hG.1,hG.2.1⟩
     have HBAD:Hid (∀ out,uqE N (uq N V rest p [] 0 out)=none):=fun out=>by
      rw [<-HT.out.2.1 out,z2s (.inl (by unfold wid;rw [if_neg (by omega),if_neg (by omega)];omega))]
      rfl
     go_wp2_with fail
     refine HC.mono ?_;clear HC;rintro e w9 ⟨rfl,hw9⟩;rw [hw9];clear hw9;go_wp2_with fail
     refine HC2.mono ?_;clear HC2;rintro e w2 ⟨⟨T,y,rfl⟩,m,rfl⟩;have r0:=HT.out.1.res.c0;have r1:=HT.out.1.res.c1;have r2:=HT.out.1.res.c2;have f0:=HT.out.1.res.fz 0;have f1:=HT.out.1.res.fz 1;have f2:=HT.out.1.res.fz 2;have HF:=HT.out.1.fin (.slice none 0 0) 0 0 m;have HY:Hid (sqR w0 w ((((wr.drewN m).setCell ⟨w.heap.size,0,none⟩ (.slice none 0 0)).setCell ⟨w.heap.size,1,none⟩ (.int .i64 0)).setCell ⟨w.heap.size,2,none⟩ (.int .i64 0)) B Q R x zs.length cx N V p rest (.returned (.tuple #[.agg #[.slice none 0 0,.int .i64 0,.int .i64 0],.iface T y]))):=
      .inr ⟨⟨_,_,_,_,_,_,_,rfl⟩,HBAD.out,HF.2.2.2⟩
     clear HF;go_wp2;exact bodyPost_ret (v:=.tuple #[.agg #[.slice none 0 0,.int .i64 0,.int .i64 0],.iface T y]) (by simp [results,Tryz.results169,go_sem,r0,r1,r2]) rfl HY.out
   ·rw [decide_eq_false hs16] at HC
    have hpw:=za6 hsr.2;have hwd:=z9e hsr.2
    by_cases hok1:s<28/\p'+(s-16).toNat<=N
    ·have HC2:=z9i B Q R s t x cx zs N V p' w0 wr HE.out.2.2.2.1 HT.out.1.bel HT.out.1.sr HT.out.1.rd HE.out.2.2.2.2.1 HE.out.2.2.2.2.2 hN 16 (.inl rfl) ⟨by omega,by omega⟩ hok1.2
     have hwe:wid s=(s-16).toNat:=by unfold wid;rw [if_neg (by omega),if_pos (by omega)]
     rw [hwe] at hpw hwd;obtain ⟨qa,qc,hq1,-⟩:=HT.out.1.sr;have q0:wr.cell? ⟨Q,0,none⟩=some (.slice qa (t.length+1) qc):=zd (j:=0) hq1 rfl;clear hq1;go_wp2_with fail
     refine HC.mono ?_;clear HC;rintro e w9 ⟨rfl,hw9⟩;rw [hw9];clear hw9;go_wp2_with fail
     refine HC2.mono ?_;clear HC2 q0;rintro e w2 ⟨rfl,hsr2,hrd2,ho2⟩;have hbt:=z07 V p' (s-16).toNat;have hlen:=HT.out.1.len
     simp only [List.length_cons] at hlen
     have HU3:Hid (∀ out,uq N V t (p'+(s-16).toNat) ls (2 ^ (s-16).toNat+bt V p' (s-16).toNat+2) out=uq N V rest p [] 0 out):=fun out=>by
      rw [<-HT.out.2.1 out,zim (by rw [hwe];exact hok1.2) rfl (by omega) hok1.1,hwe]
     have HT2:Hid (SqSt w0 w w2 B Q R x zs.length cx N V p rest t (p'+(s-16).toNat) (.slice la ls.length lc) ls 0 0):=HT.out.1.moved HE.out.2.2.2.1 hBw hsr2 hrd2 ho2 hok1.2 (by omega) hQB
     have HSUB:Hid (∀ z ∈ t,z ∈ rest):=fun z hz=>HT.out.2.2.1 z (List.mem_cons_of_mem _ hz)
     have HLB:Hid (2 ^ (s-16).toNat+bt V p' (s-16).toNat<=4096/\True):=⟨by omega,trivial⟩
     have hp2:p'+(s-16).toNat<=N:=hok1.2;have HLT:Hid (ls.length+t.length<rest.length):=by unfold Hid;omega
     clear hsr2 hrd2 ho2 hbt hok1 hwe hpw hwd HT;generalize 2 ^ (s-16).toNat+bt V p' (s-16).toNat=D at *;generalize p'+(s-16).toNat=p2 at *;have o0:=HT2.out.one.c0;have o1:=HT2.out.one.c1;have o2:=HT2.out.one.c2;have g1:=HT2.out.one.fz 1;go_wp2_with fail
     have HD2:Hid (wrap64 (wrap64 ((D:Int)+3)-1)=((D+2:Nat):Int)/\True):=by
      refine ⟨?_,trivial⟩;have:=HLB.out.1;rw [IntWalk.wrap64_in ((D:Int)+3) (by omega),IntWalk.wrap64_in ((D:Int)+3-1) (by omega)]
      omega
     rw [HD2.out.1];have HT3:Hid (SqSt w0 w (w2.setCell ⟨w.heap.size+1,1,none⟩ (.int .i64 ((D+2:Nat):Int))) B Q R x zs.length cx N V p rest t p2 (.slice la ls.length lc) ls ((D+2:Nat):Int) 0):=HT2.out.setN hBw _;clear HT2 o0 o1 o2 g1 HD2;generalize w2.setCell ⟨w.heap.size+1,1,none⟩ (.int .i64 ((D+2:Nat):Int))=W3 at *
     by_cases hok2:∃ s2 t2,t=s2 :: t2/\28<=s2/\p2+(s2-28).toNat<=N
     ·obtain ⟨s2,t2,rfl,h28,hpp⟩:=hok2
      have hsr2:=HR.out s2 (HSUB.out s2 (by simp))
      have HC2:=z9i B Q R s2 t2 x cx zs N V p2 w0 W3 HE.out.2.2.2.1 HT3.out.bel HT3.out.sr HT3.out.rd HE.out.2.2.2.2.1 HE.out.2.2.2.2.2 hN 28 (.inr rfl) ⟨h28,by omega⟩ hpp
      have hpw:=za6 hsr2.2;have hwd:=z9e hsr2.2;have hwe:wid s2=(s2-28).toNat:=by unfold wid;rw [if_pos h28]
      rw [hwe] at hpw hwd;refine HC2.mono ?_;clear HC2;rintro e w4 ⟨rfl,hsr4,hrd4,ho4⟩;have hbt:=z07 V p2 (s2-28).toNat;have hlen:=HLT.out
      simp only [List.length_cons] at hlen
      have HU4:Hid (∀ out,uq N V rest p [] 0 out=uq N V t2 (p2+(s2-28).toNat) [] 0 (out++[(ls,((D+2:Nat):Int),((2 ^ (s2-28).toNat+bt V p2 (s2-28).toNat:Nat):Int))])):=fun out=>by
       rw [<-HU3.out out,zjh (by rw [hwe];exact hpp) (by omega) h28,hwe]
      have HT4:Hid (SqSt w0 w w4 B Q R x zs.length cx N V p rest t2 (p2+(s2-28).toNat) (.slice la ls.length lc) ls ((D+2:Nat):Int) 0):=HT3.out.moved HE.out.2.2.2.1 hBw hsr4 hrd4 ho4 hpp (by omega) hQB
      have HSB2:Hid (∀ z ∈ t2,z ∈ rest):=fun z hz=>HSUB.out z (List.mem_cons_of_mem _ hz)
      have HEB:Hid (2 ^ (s2-28).toNat+bt V p2 (s2-28).toNat<=4096/\p2+(s2-28).toNat<=N):=⟨by omega,hpp⟩
      have HLX:Hid (ls.length+t2.length<=rest.length/\t2.length<rest.length):=by unfold Hid;omega
      clear hsr4 hrd4 ho4 hbt hpp hwe hpw hwd HT3 hlen;generalize 2 ^ (s2-28).toNat+bt V p2 (s2-28).toNat=E at *;generalize p2+(s2-28).toNat=p3 at *;have HT5:Hid (SqSt w0 w (w4.setCell ⟨w.heap.size+1,2,none⟩ (.int .i64 (E:Nat))) B Q R x zs.length cx N V p rest t2 p3 (.slice la ls.length lc) ls ((D+2:Nat):Int) (E:Nat)):=HT4.out.setD hBw _;have k2:=HT4.out.one.c2;have kf:=HT4.out.one.fz 2;have o0:=HT5.out.one.c0
      have o1:=HT5.out.one.c1;have o2:=HT5.out.one.c2;have r0:=HT5.out.res.c0;have r1:=HT5.out.res.c1;have r2:=HT5.out.res.c2;have f0:=HT5.out.res.fz 0;have f1:=HT5.out.res.fz 1;have f2:=HT5.out.res.fz 2;have HF:=HT5.out.fin (.slice la ls.length lc) ((D+2:Nat):Int) (E:Nat) 0;have HY:Hid (sqR w0 w ((((w4.setCell ⟨w.heap.size+1,2,none⟩ (.int .i64 (E:Nat))).setCell ⟨w.heap.size,0,none⟩ (.slice la ls.length lc)).setCell ⟨w.heap.size,1,none⟩ (.int .i64 ((D+2:Nat):Int))).setCell ⟨w.heap.size,2,none⟩ (.int .i64 (E:Nat))) B Q R x zs.length cx N V p rest (.returned (.tuple #[.agg #[.slice la ls.length lc,.int .i64 ((D+2:Nat):Int),.int .i64 (E:Nat)],.nilIface]))):=
       .inl ⟨.slice la ls.length lc,ls,((D+2:Nat):Int),(E:Nat),t2,p3,rfl,HF.1,HF.2.1,HEB.out.2,HF.2.2.1,HF.2.2.2,HLX.out,by have:=HLB.out.1;have:=HEB.out.1;omega,HSB2.out,fun out=>by rw [HU4.out out]⟩
      clear HF;generalize ((D+2:Nat):Int)=DI at *;go_wp2;exact bodyPost_ret (v:=.tuple #[.agg #[.slice la ls.length lc,.int .i64 DI,.int .i64 (E:Nat)],.nilIface]) (by simp [results,Tryz.results169,go_sem,r0,r1,r2]) rfl HY.out
     ·have HBAD:Hid (∀ out,uqE N (uq N V rest p [] 0 out)=none):=fun out=>by
       rw [<-HU3.out out]
       cases t with
       | nil=>simp [uq,uqE]
       | cons s2 t2=>
        rw [z2s (by
         by_cases h28:28<=s2
         ·refine .inl ?_
          have:wid s2=(s2-28).toNat:=by unfold wid;rw [if_pos h28]
          have:¬p2+(s2-28).toNat<=N:=fun h=>hok2 ⟨s2,t2,rfl,h28,h⟩
          omega
         ·exact .inr (by omega))]
        rfl
      have HC2:=zax B Q R t x cx zs N p2 w0 W3 HE.out.2.2.2.1 HT3.out.bel HT3.out.sr HT3.out.rd hN hp2 28 (.inr rfl) (fun z hz=>HR.out z (HSUB.out z hz)) (fun s' t' he hs' h=>hok2 ⟨s',t',he,hs'.1,h⟩) HE.out.1 HE.out.2.1 HE.out.2.2.1 hG
      refine HC2.mono ?_;clear HC2 hok2;rintro e w4 ⟨⟨T,y,rfl⟩,m,rfl⟩;have HT4:Hid (SqSt w0 w (W3.drewN m) B Q R x zs.length cx N V p rest t p2 (.slice la ls.length lc) ls ((D+2:Nat):Int) 0):=HT3.out.drew m;clear HT3;generalize W3.drewN m=w4 at *;have HT5:Hid (SqSt w0 w (w4.setCell ⟨w.heap.size+1,2,none⟩ (.int .i64 0)) B Q R x zs.length cx N V p rest t p2 (.slice la ls.length lc) ls ((D+2:Nat):Int) 0):=HT4.out.setD hBw _
      have k2:=HT4.out.one.c2;have kf:=HT4.out.one.fz 2;have o0:=HT5.out.one.c0;have o1:=HT5.out.one.c1;have o2:=HT5.out.one.c2;have r0:=HT5.out.res.c0;have r1:=HT5.out.res.c1;have r2:=HT5.out.res.c2;have f0:=HT5.out.res.fz 0;have f1:=HT5.out.res.fz 1;have f2:=HT5.out.res.fz 2;have HF:=HT5.out.fin (.slice la ls.length lc) ((D+2:Nat):Int) 0 0;have HY:Hid (sqR w0 w ((((w4.setCell ⟨w.heap.size+1,2,none⟩ (.int .i64 0)).setCell ⟨w.heap.size,0,none⟩ (.slice la ls.length lc)).setCell ⟨w.heap.size,1,none⟩ (.int .i64 ((D+2:Nat):Int))).setCell ⟨w.heap.size,2,none⟩ (.int .i64 0)) B Q R x zs.length cx N V p rest (.returned (.tuple #[.agg #[.slice la ls.length lc,.int .i64 ((D+2:Nat):Int),.int .i64 0],.iface T y]))):=
       .inr ⟨⟨_,_,_,_,_,_,_,rfl⟩,HBAD.out,HF.2.2.2⟩
      clear HF;generalize ((D+2:Nat):Int)=DI at *;go_wp2;exact bodyPost_ret (v:=.tuple #[.agg #[.slice la ls.length lc,.int .i64 DI,.int .i64 0],.iface T y]) (by simp [results,Tryz.results169,go_sem,r0,r1,r2]) rfl HY.out
    ·have HC2:=zax B Q R (s :: t) x cx zs N p' w0 wr HE.out.2.2.2.1 HT.out.1.bel HT.out.1.sr HT.out.1.rd hN hpN 16 (.inl rfl) (fun z hz=>HR.out z (HT.out.2.2.1 z hz)) (fun s' t' he hs'=>by
      obtain ⟨rfl,rfl⟩:s=s'/\t=t':=by simpa using he
      omega) HE.out.1 HE.out.2.1 HE.out.2.2.1 hG
     have HBAD:Hid (∀ out,uqE N (uq N V rest p [] 0 out)=none):=fun out=>by
      rw [<-HT.out.2.1 out,z2s (by
       by_cases h28:28<=s
       ·exact .inr (by omega)
       ·refine .inl ?_
        have:wid s=(s-16).toNat:=by unfold wid;rw [if_neg h28,if_pos (by omega)]
        omega)]
      rfl
     obtain ⟨qa,qc,hq1,-⟩:=HT.out.1.sr;have q0:wr.cell? ⟨Q,0,none⟩=some (.slice qa (t.length+1) qc):=zd (j:=0) hq1 rfl;clear hq1;go_wp2_with fail
     refine HC.mono ?_;clear HC;rintro e w9 ⟨rfl,hw9⟩;rw [hw9];clear hw9;go_wp2_with fail
     refine HC2.mono ?_;clear HC2 q0;rintro e w2 ⟨⟨T,y,rfl⟩,m,rfl⟩;have r0:=HT.out.1.res.c0;have r1:=HT.out.1.res.c1;have r2:=HT.out.1.res.c2;have f0:=HT.out.1.res.fz 0;have f1:=HT.out.1.res.fz 1;have f2:=HT.out.1.res.fz 2;have HF:=HT.out.1.fin (.slice none 0 0) 0 0 m;have HY:Hid (sqR w0 w ((((wr.drewN m).setCell ⟨w.heap.size,0,none⟩ (.slice none 0 0)).setCell ⟨w.heap.size,1,none⟩ (.int .i64 0)).setCell ⟨w.heap.size,2,none⟩ (.int .i64 0)) B Q R x zs.length cx N V p rest (.returned (.tuple #[.agg #[.slice none 0 0,.int .i64 0,.int .i64 0],.iface T y]))):=
      .inr ⟨⟨_,_,_,_,_,_,_,rfl⟩,HBAD.out,HF.2.2.2⟩
     clear HF;go_wp2;exact bodyPost_ret (v:=.tuple #[.agg #[.slice none 0 0,.int .i64 0,.int .i64 0],.iface T y]) (by simp [results,Tryz.results169,go_sem,r0,r1,r2]) rfl HY.out
theorem z0f (a:Option Addr) (cap:Nat) (zs:List Int) (N p width:Int) (n v:Nat) (w:World) (hb:Byt w a zs) (hz:zs=enc n v) (hn:n<=4104) (h0:0<=p) (h1:0<=width) (h2:width<=30) (h3:p+width<=n) :
  Calls Tryz.prog 102 #[.agg #[.slice a zs.length cap,.int .i64 N],.int .i64 p,.int .i64 width] w fun e w'=>e=.returned (.int .i64 (v / 2 ^ p.toNat % 2 ^ width.toNat:Nat))/\Below w.heap.size w w':=by
 have hw:Bw w (w.alloc (Obj.cells #[.slice a zs.length cap,.int .i64 N] 106)):=bAw;obtain ⟨q,rfl⟩:=Int.eq_ofNat_of_zero_le h0;obtain ⟨m,rfl⟩:=Int.eq_ofNat_of_zero_le h1
 simp only [Int.toNat_natCast] at *
 have HZ:Hid (zs=enc n v):=hz;have hlen:zs.length=(n+7) / 8:=by rw [hz,z0a]
 have HL:Hid (zs.length=(n+7) / 8):=hlen;clear hz hlen
 go_enter Tryz.func102,Tryz.ntmps102
 go_wp2
 go_loopw [7,8] (fun x i wr=>∃ j:Nat,j<=m/\i=.int .i64 ((j:Int)-1)/\x=.int .i64 (v / 2 ^ (q+j) % 2 ^ (m-j):Nat)/\Below w.heap.size w wr/\w.heap.size<wr.heap.size /\
   wr.cell? ⟨w.heap.size,0,none⟩=some (.slice a zs.length cap)/\wr.cell? ⟨w.heap.size,1,none⟩=some (.int .i64 N)) (fun _ i _=>(intOf i+1).toNat)
 case atStart=>exact ⟨m,Nat.le_refl _,rfl,by simp [Nat.mod_one],hw,by simp,by simp,by simp⟩
 case round=>
  obtain ⟨j,hj,rfl,rfl,hbel,hsz,p0,p1⟩:=hrel
  by_cases hlt:0<j
  ·obtain ⟨j',rfl⟩:∃ j',j=j'+1:=⟨j-1,by omega⟩
   have hx:v / 2 ^ (q+(j'+1)) % 2 ^ (m-(j'+1))<2 ^ 30:=Nat.lt_of_lt_of_le (Nat.mod_lt _ (Nat.pow_pos (by omega))) (Nat.pow_le_pow_right (by omega) (by omega))
   have hge:(0:Int)<=((j'+1:Nat):Int)-1:=by omega
   have HX:Hid (v / 2 ^ (q+j') % 2 ^ (m-j')=2*(v / 2 ^ (q+(j'+1)) % 2 ^ (m-(j'+1)))+v / 2 ^ (q+j') % 2):=by
    have:=zlz v (q+j') (m-(j'+1));rw [show m-(j'+1)+1=m-j' from by omega] at this
    rw [Nat.add_assoc] at this;exact this
   generalize v / 2 ^ (q+(j'+1)) % 2 ^ (m-(j'+1))=X at *;have HB:Hid (z3w zs ((q:Int)+(j':Int)).toNat=v / 2 ^ (q+j') % 2):=by
    have:=z2n n v (q+j') (by omega)
    rw [<-HZ.out] at this;rw [show ((q:Int)+(j':Int)).toNat=q+j' from by omega]
    exact this
   have hbit:v / 2 ^ (q+j') % 2<2:=Nat.mod_lt _ (by omega)
   generalize v / 2 ^ (q+j') % 2=bt at *;go_wp2_with fail
   refine (z21 a cap zs N _ _ (hb.below hbel nl) (by omega) (by have:=HL.out;omega) (by omega)).mono ?_
   rintro e w1 ⟨rfl,hb1⟩;rw [HB.out];have z1:=hb1.size;have q0:=keep hb1 hsz p0;have q1:=keep hb1 hsz p1;have hbel1:=hbel.trans (hb1.mono (Nat.le_of_lt hsz));clear p0 p1 hb1 hbel hw;go_wp2;go_roundw
   case rel=>exact ⟨j',by omega,by go_num,by rw [HX.out];go_num,hbel1,by omega,q0,q1⟩
   case measure=>simp [intOf]
  ·have hj0:j=0:=by omega
   subst hj0;go_wp2;go_ret;exact ⟨z70 (by simp),hbel⟩
theorem zn0 (k:Nat) (h:k<=12):wrap64 (2 ^ k)=((2 ^ k:Nat):Int):=by
 have h2:2 ^ k<=2 ^ 12:=Nat.pow_le_pow_right (by omega) h
 have e:((2:Int) ^ k)=((2 ^ k:Nat):Int):=by simp
 rw [e];generalize 2 ^ k=P at *;exact IntWalk.wrap64_in _ (by omega)
def usR (w w':World) (N V:Nat) (ts:List Int) (e:Ending):Prop:=Below w.heap.size w w' /\
 (∀ cs,uqF N V ts=some cs->∃ v ss,e=.returned (.tuple #[v,.bool true])/\ss.map Sq.ct=cs/\OVq w' w.heap.size v ss/\DeepQ w' w.heap.size ss/\Sml ss/\ss.length<=301) /\
 (uqF N V ts=none->∃ v,e=.returned (.tuple #[v,.bool false]))
theorem usR.no {w w':World} {N V:Nat} {ts:List Int} {v:Value} (hb:Below w.heap.size w w') (h:uqF N V ts=none):usR w w' N V ts (.returned (.tuple #[v,.bool false])):=
 And.intro hb (And.intro (fun cs hc=>by rw [h] at hc;cases hc) (fun _=>⟨_,rfl⟩))
theorem z1g (a:Option Addr) (cap:Nat) (ts:List Int) (x:Option Addr) (cx:Nat) (zs:List Int) (N V:Nat) (w:World) (ha:Ins w a ts) (hx:Byt w x zs) (hz:zs=enc N V) (hN:N<=4096) (ht:∀ s ∈ ts,0<=s/\s<40) (hl:ts.length<=300) :
  Calls Tryz.prog 79 #[.slice a ts.length cap,.agg #[.slice x zs.length cx,.int .i64 N]] w fun e w'=>usR w w' N V ts e:=by
 have HZ:Hid (zs=enc N V):=hz;have HT:Hid (∀ k,k<ts.length->0<=ts.getD k 0/\ts.getD k 0<40):=fun k hk=>ht _ (zp hk)
 have HIN:Hid (Ins w a ts/\Byt w x zs):=⟨ha,hx⟩;have HBW:Hid (Bw w (w.alloc (Obj.cells #[.slice x zs.length cx,.int .i64 N] 106))):=bAw;have q0:(w.alloc (Obj.cells #[.slice x zs.length cx,.int .i64 N] 106)).cell? ⟨w.heap.size,0,none⟩=some (.slice x zs.length cx):=by simp
 have q1:(w.alloc (Obj.cells #[.slice x zs.length cx,.int .i64 N] 106)).cell? ⟨w.heap.size,1,none⟩=some (.int .i64 N):=by simp
 have Q:Hid _:=(⟨q0,q1⟩:_/\_);have HSZ:Hid (w.heap.size+1<=(w.alloc (Obj.cells #[.slice x zs.length cx,.int .i64 N] 106)).heap.size):=by simp [Hid]
 have HDC:Hid _:=zi6 ts;clear hz q0 q1 ht ha hx;generalize hlen:ts.length=n at *;have HL:Hid (ts.length=n):=hlen;clear hlen
 go_enter Tryz.func79,Tryz.ntmps79
 go_wp2
 generalize w.alloc (Obj.cells #[.slice x zs.length cx,.int .i64 N] 106)=W0 at *
 go_loopw [6,7,8,9,10] (fun ov lv pv Lv iv wr=>∃ (i p L:Nat) (ls:List Int) (ss:List Sq),iv=.int .i64 i/\pv=.int .i64 p/\Lv=.int .i64 L/\(i<=n/\p<=N/\L<=5000/\ls.length<=i/\ss.length<=i)/\uq N V (ts.drop i) p ls L (ss.map Sq.ct)=uq N V ts 0 [] 0 []/\Sml ss/\OVB wr (w.heap.size+1) lv ls/\OVq wr (w.heap.size+1) ov ss/\DeepQ wr (w.heap.size+1) ss/\Aprt ss lv/\Below (w.heap.size+1) W0 wr) (fun _ _ _ _ iv _=>n-(intOf iv).toNat)
 case atStart=>exact ⟨0,0,0,[],[],rfl,rfl,rfl,⟨by omega,by omega,by omega,by simp,by simp⟩,rfl,Sml.nil,OVB.nil _ _,OVq.nil _ _,DeepQ.nil _ _,Aprt.none _,Below.refl _ _⟩
 case round=>
  obtain ⟨i,p,L,ls,ss,rfl,rfl,rfl,⟨hi,hp,hL,hll,hsl⟩,hu,hsm,hob,hoq,hdq,hap,hbel⟩:=hrel;obtain ⟨la,lc,rfl⟩:=hob.form;obtain ⟨oa,oc,rfl⟩:=hoq.form;have HF:Hid (uq N V (ts.drop i) p ls L (ss.map Sq.ct)=uq N V ts 0 [] 0 []/\Sml ss):=⟨hu,hsm⟩;have HO:Hid (OVB wr (w.heap.size+1) (.slice la ls.length lc) ls/\OVq wr (w.heap.size+1) (.slice oa ss.length oc) ss/\DeepQ wr (w.heap.size+1) ss/\Aprt ss (.slice la ls.length lc)):=⟨hob,hoq,hdq,hap⟩
  have HB:Hid (Below (w.heap.size+1) W0 wr/\Bw w wr):=⟨hbel,HBW.out.trans (hbel.mono (by omega))⟩
  have hsz:w.heap.size+1<=wr.heap.size:=Nat.le_trans HSZ.out hbel.size;have b0:=keep hbel (by omega) Q.out.1
  have b1:=keep hbel (by omega) Q.out.2
  clear hu hsm hob hoq hdq hap hbel
  by_cases hlt:i<n
  ·have hia:=HIN.out.1.below HB.out.2 nl
   obtain ⟨ab,ao,rfl,hab,hac⟩:=hia.len_pos i (by rw [HL.out];exact hlt)
   have hs1:=hac i (by rw [HL.out];exact hlt)
   have hsr:=HT.out i hlt;have HUC:=HDC.out i hlt;have HU2:Hid (uq N V (ts.getD i 0 :: ts.drop (i+1)) p ls L (ss.map Sq.ct)=uq N V ts 0 [] 0 []):=by rw [<-HUC];exact HF.out.1
   have hwd:=z9e hsr.2;have hpw:=za6 hsr.2;have hbt:=z07 V p (wid (ts.getD i 0));clear HUC hac hia;generalize ts.getD i 0=s at *
   by_cases hs28:28<=s
   ·by_cases hL0:L=0
    ·subst hL0
     have HN:Hid (uqF N V ts=none):=by
      unfold Hid uqF;rw [<-HU2.out,z2s (Or.inr (by omega))]
      rfl
     clear HO HF HU2;go_wp2
     all_goals exact bodyPost_ret (v:=.tuple #[.slice none 0 0,.bool false]) (by simp [results,Tryz.results79,go_sem]) rfl (usR.no HB.out.2 HN.out)
    ·have hL1:0<L:=by omega
     by_cases hpn:p+wid s<=N
     ·skip
      have HU3:Hid (uq N V (ts.drop (i+1)) (p+wid s) [] 0 (ss.map Sq.ct++[(ls,(L:Int),((2 ^ wid s+bt V p (wid s):Nat):Int))])=uq N V ts 0 [] 0 []):=by rw [<-HU2.out];exact (zjh hpn (by omega) hs28).symm
      have hwe:wid s=(s-28).toNat:=by unfold wid;rw [if_pos hs28]
      rw [hwe] at hbt hwd hpw;have hpn2:(p:Int)+(s-28)<=N:=by omega
      have hpn3:¬((N:Int)-(s-28)<(p:Int)):=by omega
      rw [hwe] at HU3;clear hwe hpn;have HPW:Hid (wrap64 (2 ^ (s-28).toNat)=((2 ^ (s-28).toNat:Nat):Int)/\True):=⟨zn0 _ (by omega),trivial⟩
      go_wp2_with fail
      refine (z0f x cx zs N p (s-28) N V _ (HIN.out.2.below HB.out.2 nl) HZ.out (by omega) (by omega) (by omega) (by omega) (by omega)).mono ?_
      rintro e w2 ⟨rfl,hb2⟩;have hxe:V / 2 ^ ((p:Nat):Int).toNat % 2 ^ ((s-28):Int).toNat=bt V p (s-28).toNat:=by unfold bt;simp
      rw [hxe];have HB2:Hid (Below (w.heap.size+1) W0 w2/\Bw w w2):=⟨HB.out.1.trans (hb2.mono (by omega)),HB.out.2.trans (hb2.mono (by omega))⟩
      have HO2:Hid (OVB w2 (w.heap.size+1) (.slice la ls.length lc) ls/\OVq w2 (w.heap.size+1) (.slice oa ss.length oc) ss/\DeepQ w2 (w.heap.size+1) ss/\Aprt ss (.slice la ls.length lc)):=⟨HO.out.1.below hb2,HO.out.2.1.below hb2,HO.out.2.2.1.below hb2,HO.out.2.2.2⟩;have hz2:w.heap.size+1<=w2.heap.size:=Nat.le_trans hsz hb2.size;clear hxe hb2 HO b0 b1 hs1;generalize bt V p (s-28).toNat=y at *;have HDV:Hid (wrap64 (wrap64 (2 ^ (s-28).toNat)+(y:Nat))=((2 ^ (s-28).toNat+y:Nat):Int)/\2 ^ (s-28).toNat+y<=4096):=by
       rw [HPW.out.1];generalize 2 ^ (s-28).toNat=P at *;refine ⟨?_,by omega⟩
       rw [IntWalk.wrap64_in ((P:Int)+(y:Nat)) (by omega)]
       omega
      have hss3:ss.length<=300:=by omega
      go_wp2_with (at_builtin;(refine z03 rfl (.tmp 52) (.tmp 60) rfl (w.heap.size+1) (.slice oa ss.length oc) ss rfl (HO2.out.2.1.below ((Below.refl _ _).alloc nl _)) w2.heap.size 1 ⟨la,lc,ls,(L:Int),wrap64 (wrap64 (2 ^ (s-28).toNat)+(y:Nat))⟩ rfl (z3l w2 la ls.length lc _ _ _ _ rfl rfl rfl rfl rfl) (by omega) (by simp;omega) ?_);intro v4 w4 hown hgrow)
      have HO4:Hid (OVq w4 (w.heap.size+1) v4 (ss++[⟨la,lc,ls,(L:Int),wrap64 (wrap64 (2 ^ (s-28).toNat)+(y:Nat))⟩])/\DeepQ w4 (w.heap.size+1) (ss++[⟨la,lc,ls,(L:Int),wrap64 (wrap64 (2 ^ (s-28).toNat)+(y:Nat))⟩])):=by
       refine ⟨hown,?_⟩;obtain ⟨a5,c5,e5,hm5,hr5⟩:=HO2.out.1.mineAt;obtain ⟨rfl,rfl⟩:la=a5/\lc=c5:=by simpa using e5
       have hd5:DeepQ w2 (w.heap.size+1) (ss++[⟨la,lc,ls,(L:Int),wrap64 (wrap64 (2 ^ (s-28).toNat)+(y:Nat))⟩]):=HO2.out.2.2.1.snoc hm5 (fun z hz k hk hk2=>HO2.out.2.2.2 z hz k hk (hr5 k hk2))
       exact (hd5.below ((Below.refl _ _).alloc nl _)).grown (HO2.out.2.1.below ((Below.refl _ _).alloc nl _)) hgrow
      have HB4:Hid (Below (w.heap.size+1) W0 w4):=(HB2.out.1.alloc hz2 _).grown hgrow (by simp;omega) (fun k hk=>(HO2.out.2.1.blk hk).1)
      have HCT:Hid ((ss++[(⟨la,lc,ls,(L:Int),wrap64 (wrap64 (2 ^ (s-28).toNat)+(y:Nat))⟩:Sq)]).map Sq.ct=ss.map Sq.ct++[(ls,(L:Int),((2 ^ (s-28).toNat+y:Nat):Int))]/\True):=⟨by rw [List.map_append,HDV.out.1];rfl,trivial⟩
      have HSM:Hid (Sml (ss++[⟨la,lc,ls,(L:Int),wrap64 (wrap64 (2 ^ (s-28).toNat)+(y:Nat))⟩])):=HF.out.2.snoc ⟨by simp only;omega,by simp only;omega,by simp only [HDV.out.1];omega,by simp only [HDV.out.1];have:=HDV.out.2;omega,by simp only;omega⟩
      clear hown hgrow HO2 HB2;go_roundw
      case rel=>exact ⟨i+1,p+(s-28).toNat,0,[],_,by go_num,by congr 1;omega,rfl,⟨by omega,by omega,by omega,by simp,by rw [List.length_append];simp;omega⟩,by rw [HCT.out.1];exact HU3.out,HSM.out,OVB.nil _ _,HO4.out.1,HO4.out.2,Aprt.none _,HB4.out⟩
      case measure=>simp [intOf];omega
     ·have hpn2:(N:Int)-(s-28)<(p:Int):=by
       have:wid s=(s-28).toNat:=by unfold wid;rw [if_pos hs28]
       omega
      have HN:Hid (uqF N V ts=none):=by
       unfold Hid uqF;rw [<-HU2.out,z2s (Or.inl (by omega))]
       rfl
      clear HO HF HU2;go_wp2
      all_goals exact bodyPost_ret (v:=.tuple #[.slice none 0 0,.bool false]) (by simp [results,Tryz.results79,go_sem]) rfl (usR.no HB.out.2 HN.out)
   ·by_cases hL0:L=0
    ·subst hL0
     by_cases hs16:16<=s
     ·by_cases hpn:p+wid s<=N
      ·skip
       have HU3:Hid (uq N V (ts.drop (i+1)) (p+wid s) ls (2 ^ wid s+bt V p (wid s)+2) (ss.map Sq.ct)=uq N V ts 0 [] 0 []):=by rw [<-HU2.out];exact (zim hpn rfl hs16 (by omega)).symm
       have hwe:wid s=(s-16).toNat:=by unfold wid;rw [if_neg (by omega),if_pos hs16]
       rw [hwe] at hbt hwd hpw;have HWE:Hid (wid s=(s-16).toNat/\True):=⟨hwe,trivial⟩;have hpn2:(p:Int)+(s-16)<=N:=by omega
       have hpn3:¬((N:Int)-(s-16)<(p:Int)):=by omega
       rw [hwe] at HU3;clear hwe hpn;have HPW:Hid (wrap64 (2 ^ (s-16).toNat)=((2 ^ (s-16).toNat:Nat):Int)/\True):=⟨zn0 _ (by omega),trivial⟩
       go_wp2_with fail
       refine (z0f x cx zs N p (s-16) N V _ (HIN.out.2.below HB.out.2 nl) HZ.out (by omega) (by omega) (by omega) (by omega) (by omega)).mono ?_
       rintro e w2 ⟨rfl,hb2⟩;have hxe:V / 2 ^ ((p:Nat):Int).toNat % 2 ^ ((s-16):Int).toNat=bt V p (s-16).toNat:=by unfold bt;simp
       rw [hxe];have HB2:Hid (Below (w.heap.size+1) W0 w2/\Bw w w2):=⟨HB.out.1.trans (hb2.mono (by omega)),HB.out.2.trans (hb2.mono (by omega))⟩
       have HO2:Hid (OVB w2 (w.heap.size+1) (.slice la ls.length lc) ls/\OVq w2 (w.heap.size+1) (.slice oa ss.length oc) ss/\DeepQ w2 (w.heap.size+1) ss/\Aprt ss (.slice la ls.length lc)):=⟨HO.out.1.below hb2,HO.out.2.1.below hb2,HO.out.2.2.1.below hb2,HO.out.2.2.2⟩;have hz2:w.heap.size+1<=w2.heap.size:=Nat.le_trans hsz hb2.size;clear hxe hb2 HO b0 b1 hs1;generalize bt V p (s-16).toNat=y at *;have HPB:Hid (2 ^ (s-16).toNat<=2048/\y<2 ^ (s-16).toNat):=⟨hpw,hbt⟩
       have HLV:Hid (wrap64 (wrap64 (wrap64 (wrap64 (2 ^ (s-16).toNat)+(y:Nat))+3)-1)=((2 ^ (s-16).toNat+y+2:Nat):Int)/\True):=by
        refine ⟨?_,trivial⟩;rw [HPW.out.1];have h1:=HPB.out.1;have h2:=HPB.out.2;generalize 2 ^ (s-16).toNat=P at *;rw [IntWalk.wrap64_in ((P:Int)+(y:Nat)) (by omega),IntWalk.wrap64_in ((P:Int)+(y:Nat)+3) (by omega),IntWalk.wrap64_in ((P:Int)+(y:Nat)+3-1) (by omega)]
        omega
       go_wp2
       go_roundw
       case rel=>exact ⟨i+1,p+(s-16).toNat,2 ^ (s-16).toNat+y+2,ls,ss,by go_num,by congr 1;omega,by rw [HLV.out.1],⟨by omega,by omega,by have:=HPB.out;omega,by omega,by omega⟩,HU3.out,HF.out.2,HO2.out.1,HO2.out.2.1,HO2.out.2.2.1,HO2.out.2.2.2,HB2.out.1⟩
       case measure=>simp [intOf];omega
      ·have hpn2:(N:Int)-(s-16)<(p:Int):=by
        have:wid s=(s-16).toNat:=by unfold wid;rw [if_neg hs28,if_pos hs16]
        omega
       have HN:Hid (uqF N V ts=none):=by
        unfold Hid uqF;rw [<-HU2.out,z2s (Or.inl (by omega))]
        rfl
       clear HO HF HU2;go_wp2
       all_goals exact bodyPost_ret (v:=.tuple #[.slice none 0 0,.bool false]) (by simp [results,Tryz.results79,go_sem]) rfl (usR.no HB.out.2 HN.out)
     ·have hwe:wid s=4:=by unfold wid;rw [if_neg (by omega),if_neg (by omega)]
      by_cases hpn:p+4<=N
      ·skip
       have HU3:Hid (uq N V (ts.drop (i+1)) (p+4) (ls++[16*s+(bt V p 4:Nat)]) 0 (ss.map Sq.ct)=uq N V ts 0 [] 0 []):=by rw [<-HU2.out];exact (zjs hpn rfl (by omega)).symm
       rw [hwe] at hbt;clear hwe hwd hpw;go_wp2_with fail
       refine (z0f x cx zs N p 4 N V _ (HIN.out.2.below HB.out.2 nl) HZ.out (by omega) (by omega) (by omega) (by omega) (by omega)).mono ?_
       rintro e w2 ⟨rfl,hb2⟩;have hxe:V / 2 ^ ((p:Nat):Int).toNat % 2 ^ (4:Int).toNat=bt V p 4:=by unfold bt;simp
       rw [hxe];have HB2:Hid (Below (w.heap.size+1) W0 w2/\Bw w w2):=⟨HB.out.1.trans (hb2.mono (by omega)),HB.out.2.trans (hb2.mono (by omega))⟩
       have HO2:Hid (OVB w2 (w.heap.size+1) (.slice la ls.length lc) ls/\OVq w2 (w.heap.size+1) (.slice oa ss.length oc) ss/\DeepQ w2 (w.heap.size+1) ss/\Aprt ss (.slice la ls.length lc)):=⟨HO.out.1.below hb2,HO.out.2.1.below hb2,HO.out.2.2.1.below hb2,HO.out.2.2.2⟩;have hz2:w.heap.size+1<=w2.heap.size:=Nat.le_trans hsz hb2.size;clear hxe hb2 HO b0 b1 hs1;generalize bt V p 4=y at *;have hll3:ls.length<=300:=by omega
       go_wp2_with (at_builtin;(refine z17 rfl (.tmp 65) (.tmp 71) rfl (w.heap.size+1) (.slice la ls.length lc) ls rfl (HO2.out.1.alloc _) w2.heap.size 1 (16*s+(y:Nat)) rfl (by simp) (by omega) (by omega) (by simp;omega) ?_);intro v4 w4 hown hgrow hat)
       have HO4:Hid (OVB w4 (w.heap.size+1) v4 (ls++[16*s+(y:Nat)])/\OVq w4 (w.heap.size+1) (.slice oa ss.length oc) ss/\DeepQ w4 (w.heap.size+1) ss/\Aprt ss v4):=by
        have hbA:Bw w2 (w2.alloc (Obj.cells #[.int .u8 (16*s+(y:Nat))] 5)):=bAw;exact ⟨hown,(HO2.out.2.1.below hbA).grownB (HO2.out.1.alloc _) hgrow,(HO2.out.2.2.1.below hbA).grownB HO2.out.2.2.2 hgrow,HO2.out.2.2.2.app HO2.out.2.2.1 hat (by simp)⟩
       have HB4:Hid (Below (w.heap.size+1) W0 w4):=(HB2.out.1.alloc hz2 _).grown hgrow (by simp;omega) (fun k hk=>(HO2.out.1.blk hk))
       clear hown hgrow hat HO2 HB2;go_roundw
       case rel=>exact ⟨i+1,p+4,0,ls++[16*s+(y:Nat)],ss,by go_num,by go_num,rfl,⟨by omega,by omega,by omega,by rw [List.length_append];simp;omega,by omega⟩,HU3.out,HF.out.2,HO4.out.1,HO4.out.2.1,HO4.out.2.2.1,HO4.out.2.2.2,HB4.out⟩
       case measure=>simp [intOf];omega
      ·have hpn2:(N:Int)-4<(p:Int):=by omega
       have HN:Hid (uqF N V ts=none):=by
        unfold Hid uqF;rw [<-HU2.out,z2s (Or.inl (by rw [hwe];omega))]
        rfl
       clear HO HF HU2;go_wp2
       all_goals exact bodyPost_ret (v:=.tuple #[.slice none 0 0,.bool false]) (by simp [results,Tryz.results79,go_sem]) rfl (usR.no HB.out.2 HN.out)
    ·have hL1:0<L:=by omega
     have HN:Hid (uqF N V ts=none):=by
      unfold Hid uqF;rw [<-HU2.out,z2s (Or.inr (by omega))]
      rfl
     clear HO HF HU2
     by_cases hs16:16<=s
     ·go_wp2
      all_goals exact bodyPost_ret (v:=.tuple #[.slice none 0 0,.bool false]) (by simp [results,Tryz.results79,go_sem]) rfl (usR.no HB.out.2 HN.out)
     ·go_wp2
      all_goals exact bodyPost_ret (v:=.tuple #[.slice none 0 0,.bool false]) (by simp [results,Tryz.results79,go_sem]) rfl (usR.no HB.out.2 HN.out)
  ·skip
   have hin:i=n:=by omega
   subst hin;have HUE:Hid (uq N V ts 0 [] 0 []=some (ss.map Sq.ct,p,ls,L)):=by
    rw [<-HF.out.1,List.drop_eq_nil_of_le (by rw [HL.out];exact Nat.le_refl _)]
    rfl
   have hss3:ss.length<=300:=by omega
   by_cases hls:ls=[]
   ·subst hls
    have HUF:Hid (uqF N V ts=if p=N/\L=0 then some (ss.map Sq.ct) else none):=by
     unfold Hid uqF;rw [HUE.out]
     simp [uqE]
    by_cases hok:p=N/\L=0
    ·have HY:Hid (usR w wr N V ts (.returned (.tuple #[.slice oa ss.length oc,.bool true]))):=by
      refine And.intro HB.out.2 (And.intro (fun cs hc=>?_) (fun hn=>?_))
      ·rw [HUF.out,if_pos hok] at hc
       simp only [Option.some.injEq] at hc
       exact ⟨_,ss,rfl,hc,HO.out.2.1.weak (by omega),HO.out.2.2.1.weak (by omega),HF.out.2,by omega⟩
      ·rw [HUF.out,if_pos hok] at hn
       cases hn
     obtain ⟨rfl,rfl⟩:=hok;clear HO HF HUF HUE;go_wp2;exact bodyPost_ret (v:=.tuple #[.slice oa ss.length oc,.bool true]) (by simp [results,Tryz.results79,go_sem]) rfl HY.out
    ·have HN:Hid (uqF N V ts=none):=by unfold Hid;rw [HUF.out,if_neg hok]
     have hok2:(((p:Int) == (N:Int)) && ((L:Int) == 0))=false:=by
      rw [Bool.and_eq_false_iff,beq_eq_false_iff_ne,beq_eq_false_iff_ne]
      omega
     clear HF HUF HUE
     by_cases hpN:p=N
     ·have hL2:((L:Int) == 0)=false:=by rw [beq_eq_false_iff_ne];omega
      subst hpN;clear HO hok hok2;go_wp2;exact bodyPost_ret (v:=.tuple #[.slice oa ss.length oc,.bool false]) (by simp [results,Tryz.results79,go_sem]) rfl (usR.no HB.out.2 HN.out)
     ·have hp2:((p:Int) == (N:Int))=false:=by rw [beq_eq_false_iff_ne];omega
      clear HO hok hok2;go_wp2;exact bodyPost_ret (v:=.tuple #[.slice oa ss.length oc,.bool false]) (by simp [results,Tryz.results79,go_sem]) rfl (usR.no HB.out.2 HN.out)
   ·have hlp:0<(ls.length:Int):=by have:=List.length_pos_iff.2 hls;omega
    have HUF:Hid (uqF N V ts=if p=N/\L=0 then some (ss.map Sq.ct++[(ls,0,0)]) else none):=by
     unfold Hid uqF;rw [HUE.out]
     simp [uqE,hls]
    have HLS:Hid (ls.length<=300/\True):=⟨by omega,trivial⟩
    clear HUE hls;have HFIN:Hid (∀ (v4:Value) (w4:World),OVq w4 (w.heap.size+1) v4 (ss++[⟨la,lc,ls,0,0⟩])->DeepQ w4 (w.heap.size+1) (ss++[⟨la,lc,ls,0,0⟩])->Bw w w4->∀ b:Bool,(b=true↔p=N/\L=0)->usR w w4 N V ts (.returned (.tuple #[v4,.bool b]))):=by
     intro v4 w4 h1 h2 h3 b hb
     cases b with
     | false=>exact usR.no h3 (by rw [HUF.out,if_neg (fun h=>by have:=hb.2 h;cases this)])
     | true=>
      have hok:=hb.1 rfl;refine And.intro h3 (And.intro (fun cs hc=>?_) (fun hn=>?_))
      ·rw [HUF.out,if_pos hok] at hc
       simp only [Option.some.injEq] at hc
       exact ⟨v4,_,rfl,by rw [<-hc,List.map_append];rfl,h1.weak (by omega),h2.weak (by omega),HF.out.2.snoc ⟨by simp,by simp,by simp,by simp,HLS.out.1⟩,by rw [List.length_append];simp;omega⟩
      ·rw [HUF.out,if_pos hok] at hn
       cases hn
    have HAPP:Hid (∀ (v4:Value) (w4:World),OVq w4 (w.heap.size+1) v4 (ss++[⟨la,lc,ls,0,0⟩])->(wr.alloc (Obj.cells #[.slice la ls.length lc,.int .i64 0,.int .i64 0] 146)).grownBy w4 (Value.slice oa ss.length oc).ownBlock->DeepQ w4 (w.heap.size+1) (ss++[⟨la,lc,ls,0,0⟩])/\Bw w w4/\w4.cell? ⟨w.heap.size,1,none⟩=some (.int .i64 (N:Nat))):=by
     intro v4 w4 hown hgrow
     obtain ⟨a5,c5,e5,hm5,hr5⟩:=HO.out.1.mineAt;obtain ⟨rfl,rfl⟩:la=a5/\lc=c5:=by simpa using e5
     have hd5:DeepQ wr (w.heap.size+1) (ss++[⟨la,lc,ls,0,0⟩]):=HO.out.2.2.1.snoc hm5 (fun z hz k hk hk2=>HO.out.2.2.2 z hz k hk (hr5 k hk2))
     have hB4:Below (w.heap.size+1) W0 w4:=(HB.out.1.alloc hsz _).grown hgrow (by simp;omega) (fun k hk=>(HO.out.2.1.blk hk).1)
     exact ⟨(hd5.below ((Below.refl _ _).alloc nl _)).grown (HO.out.2.1.below ((Below.refl _ _).alloc nl _)) hgrow,HBW.out.trans (hB4.mono (by omega)),keep hB4 (by omega) Q.out.2⟩
    by_cases hok:p=N/\L=0
    ·obtain ⟨rfl,rfl⟩:=hok
     go_wp2_with (at_builtin;(refine z03 rfl (.tmp 85) (.tmp 88) rfl (w.heap.size+1) (.slice oa ss.length oc) ss rfl (HO.out.2.1.below ((Below.refl _ _).alloc nl _)) wr.heap.size 1 ⟨la,lc,ls,0,0⟩ rfl (z3l wr la ls.length lc _ _ _ _ rfl rfl rfl rfl rfl) (by omega) (by simp;omega) ?_);intro v4 w4 hown hgrow;have hc9:=(HAPP.out v4 w4 hown hgrow).2.2)
     exact bodyPost_ret (v:=.tuple #[v4,.bool true]) (by simp [results,Tryz.results79,go_sem]) rfl (HFIN.out v4 w4 hown (HAPP.out v4 w4 hown hgrow).1 (HAPP.out v4 w4 hown hgrow).2.1 true (by simp))
    ·by_cases hpN:p=N
     ·have hL2:((L:Int) == 0)=false:=by rw [beq_eq_false_iff_ne];omega
      have HL2:Hid (¬L=0):=fun h=>hok ⟨hpN,h⟩
      subst hpN;clear hok;go_wp2_with (at_builtin;(refine z03 rfl (.tmp 85) (.tmp 88) rfl (w.heap.size+1) (.slice oa ss.length oc) ss rfl (HO.out.2.1.below ((Below.refl _ _).alloc nl _)) wr.heap.size 1 ⟨la,lc,ls,0,0⟩ rfl (z3l wr la ls.length lc _ _ _ _ rfl rfl rfl rfl rfl) (by omega) (by simp;omega) ?_);intro v4 w4 hown hgrow;have hc9:=(HAPP.out v4 w4 hown hgrow).2.2)
      exact bodyPost_ret (v:=.tuple #[v4,.bool false]) (by simp [results,Tryz.results79,go_sem]) rfl (HFIN.out v4 w4 hown (HAPP.out v4 w4 hown hgrow).1 (HAPP.out v4 w4 hown hgrow).2.1 false (by have:=HL2.out;simp;omega))
     ·have hp2:((p:Int) == (N:Int))=false:=by rw [beq_eq_false_iff_ne];omega
      have HP2:Hid (¬p=N):=hpN;clear hok hpN;go_wp2_with (at_builtin;(refine z03 rfl (.tmp 85) (.tmp 88) rfl (w.heap.size+1) (.slice oa ss.length oc) ss rfl (HO.out.2.1.below ((Below.refl _ _).alloc nl _)) wr.heap.size 1 ⟨la,lc,ls,0,0⟩ rfl (z3l wr la ls.length lc _ _ _ _ rfl rfl rfl rfl rfl) (by omega) (by simp;omega) ?_);intro v4 w4 hown hgrow;have hc9:=(HAPP.out v4 w4 hown hgrow).2.2)
      exact bodyPost_ret (v:=.tuple #[v4,.bool false]) (by simp [results,Tryz.results79,go_sem]) rfl (HFIN.out v4 w4 hown (HAPP.out v4 w4 hown hgrow).1 (HAPP.out v4 w4 hown hgrow).2.1 false (by have:=HP2.out;simp;omega))
end Go.Proofs.YtjmcjbmjgpponaaGreatDoor
