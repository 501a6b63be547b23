import Derived.Test.YtaibkchbkedjnaaGreatDoorElTo
set_option maxRecDepth 20000
set_option maxHeartbeats 16000000
namespace Go.Proofs.YtaibkchbkedjnaaGreatDoor
open Go.RowKit
set_option linter.unusedVariables false
theorem z1c (a:Option Addr) (n cap:Nat) (left:Int) (w:World) (hn:n<=maxLen) (h0:0<=left) (h1:left<=1048576) :
  Calls Tryz.prog 112 #[.slice a n cap,.int .i64 left] w fun e w'=>e=.returned (.int .i64 (if (n:Int)<=left then left-n else -1))/\w'=w:=by
 unfold maxLen at hn
 by_cases h:(n:Int)<=left
 ·go_enter Tryz.func112,Tryz.ntmps112
  go_wp2
  go_ret;exact ⟨rfl,rfl⟩
 ·go_enter Tryz.func112,Tryz.ntmps112
  go_wp2
  go_ret;exact ⟨rfl,rfl⟩
theorem zc0 (a:Option Addr) (cap:Nat) (ss:List El) (left:Int) (w:World) (hb:Els false w a ss) (hm:ss.length<=maxLen) (h0:0<=left) (h1:left<=1048576) :
  Calls Tryz.prog 72 #[.slice a ss.length cap,.int .i64 left] w fun e w'=>(∃ z:Int,e=.returned (.int .i64 z)/\(z=-1\/(0<=z/\z<=left/\z+ss.length+zb ss=left)))/\w'=w:=by
 have HSS:Hid (Els false w a ss):=hb;unfold maxLen at hm;clear hb;have HEL:Hid (zb (ss.take ss.length)=zb ss/\True):=⟨by rw [List.take_length],trivial⟩
 generalize hlen:ss.length=n at *;have HL:Hid (ss.length=n/\True):=⟨hlen,trivial⟩;clear hlen
 by_cases hn:(n:Int)<=left
 ·go_enter Tryz.func72,Tryz.ntmps72
  go_wp2
  go_loop [1,5] (fun l i=>∃ (k:Nat) (z:Int),k<=n/\i=.int .i64 k/\l=.int .i64 z/\0<=z/\z<=1048576/\z<=left/\(n:Int)+(zb (ss.take k):Nat)+z=left) (fun _ i=>n-(intOf i).toNat)
  case atStart=>exact ⟨0,left-n,Nat.zero_le _,rfl,rfl,by omega,by omega,by omega,by simp [zb];omega⟩
  case round=>
   obtain ⟨k,z,hk,rfl,rfl,hz0,hz1,hz2,hsum⟩:=hrel;have HSUM:Hid ((n:Int)+(zb (ss.take k):Nat)+z=left/\True):=⟨hsum,trivial⟩;clear hsum
   by_cases hlt:k<n
   ·obtain ⟨b,off,rfl,hb1,c0,hby,hrg⟩:=HSS.out.sec k (by rw [HL.out.1];exact hlt)
    have HT:Hid (zb (ss.take (k+1))=zb (ss.take k)+(ss.getD k de).ls.length/\True):=⟨z0a ss k (by rw [HL.out.1];exact hlt),trivial⟩
    generalize ss.getD k de=s at *;obtain ⟨sn,sa,sc,sl⟩:=s
    simp only at c0 HT
    have hml:=hrg.len
    simp only at hml
    clear hby hrg;have HSZ:=z1c sa sl.length sc z w hml hz0 hz1;go_wp2_with fail
    refine HSZ.mono ?_;clear HSZ;rintro e w1 ⟨rfl,rfl⟩
    by_cases hc:(sl.length:Int)<=z
    ·rw [if_pos hc]
     have HS2:Hid ((n:Int)+(zb (ss.take (k+1)):Nat)+(z-sl.length)=left/\True):=by
      have h1:=HSUM.out.1;have h2:=HT.out.1;exact ⟨by omega,trivial⟩
     go_wp2
     go_round
     case rel=>exact ⟨k+1,z-sl.length,by omega,by go_num,rfl,by omega,by omega,by omega,HS2.out.1⟩
     case measure=>simp [intOf];omega
    ·rw [if_neg hc]
     go_wp2
     go_ret;exact ⟨⟨-1,rfl,.inl rfl⟩,rfl⟩
   ·have hkn:k=n:=by omega
    subst hkn;have HF:Hid (z+(k:Int)+zb ss=left/\True):=by
     have h1:=HSUM.out.1;rw [HEL.out.1] at h1;exact ⟨by omega,trivial⟩
    go_wp2
    go_ret;exact ⟨⟨z,rfl,.inr ⟨hz0,hz2,HF.out.1⟩⟩,rfl⟩
 ·go_enter Tryz.func72,Tryz.ntmps72
  go_wp2
  go_ret;exact ⟨⟨-1,rfl,.inl rfl⟩,rfl⟩
theorem zee (n:Int) (a:Option Addr) (cap:Nat) (zs:List Int) (left:Int) (w:World) (hn:zs.length<=maxLen) (h0:0<=left) (h1:left<=1048576) :
  Calls Tryz.prog 113 #[.agg #[.int .i64 n,.slice a zs.length cap],.int .i64 left] w fun e w'=>e=.returned (.int .i64 (if (zs.length:Int)<=left then left-zs.length else -1))/\Below w.heap.size w w':=by
 by_cases h:(zs.length:Int)<=left
 ·go_enter Tryz.func113,Tryz.ntmps113
  go_wp2_with (go_at_call 112;refine (z1c _ _ _ _ _ hn h0 h1).mono ?_;rintro e w' ⟨rfl,rfl⟩;rw [if_pos h])
  go_ret;exact ⟨rfl,(Below.refl _ _).alloc nl _⟩
 ·go_enter Tryz.func113,Tryz.ntmps113
  go_wp2_with (go_at_call 112;refine (z1c _ _ _ _ _ hn h0 h1).mono ?_;rintro e w' ⟨rfl,rfl⟩;rw [if_neg h])
  go_ret;exact ⟨rfl,(Below.refl _ _).alloc nl _⟩
theorem zd2 (a:Option Addr) (cap:Nat) (ss:List El) (left:Int) (w:World) (hb:Els true w a ss) (hm:ss.length<=maxLen) (h0:0<=left) (h1:left<=1048576) :
  Calls Tryz.prog 73 #[.slice a ss.length cap,.int .i64 left] w fun e w'=>(∃ z:Int,e=.returned (.int .i64 z)/\(z=-1\/(0<=z/\z<=left/\z+ss.length+zb ss=left)))/\Below w.heap.size w w':=by
 have HSS:Hid (Els true w a ss):=hb;unfold maxLen at hm;clear hb;have HEL:Hid (zb (ss.take ss.length)=zb ss/\True):=⟨by rw [List.take_length],trivial⟩
 generalize hlen:ss.length=n at *;have HL:Hid (ss.length=n/\True):=⟨hlen,trivial⟩;clear hlen
 by_cases hn:(n:Int)<=left
 ·go_enter Tryz.func73,Tryz.ntmps73
  go_wp2
  go_loopw [1,5] (fun l i wr=>∃ (k:Nat) (z:Int),k<=n/\i=.int .i64 k/\l=.int .i64 z/\0<=z/\z<=1048576/\z<=left/\(n:Int)+(zb (ss.take k):Nat)+z=left/\Below w.heap.size w wr) (fun _ i _=>n-(intOf i).toNat)
  case atStart=>exact ⟨0,left-n,Nat.zero_le _,rfl,rfl,by omega,by omega,by omega,by simp [zb];omega,Below.refl _ _⟩
  case round=>
   obtain ⟨k,z,hk,rfl,rfl,hz0,hz1,hz2,hsum,hbel⟩:=hrel;have HSUM:Hid ((n:Int)+(zb (ss.take k):Nat)+z=left/\True):=⟨hsum,trivial⟩;clear hsum
   by_cases hlt:k<n
   ·obtain ⟨b,off,rfl,hb1,c0,c1,hby,hrg⟩:=(HSS.out.below hbel nl).pen k (by rw [HL.out.1];exact hlt)
    have HT:Hid (zb (ss.take (k+1))=zb (ss.take k)+(ss.getD k de).ls.length/\True):=⟨z0a ss k (by rw [HL.out.1];exact hlt),trivial⟩
    generalize ss.getD k de=s at *;obtain ⟨sn,sa,sc,sl⟩:=s
    simp only at c0 c1 HT
    have hml:=hrg.len
    simp only at hml
    clear hby hrg;have HSZ:=zee sn sa sc sl z wr hml hz0 hz1;go_wp2_with fail
    refine HSZ.mono ?_;clear HSZ;rintro e w1 ⟨rfl,hb2⟩;have HB2:Hid (Below w.heap.size w w1):=hbel.trans (hb2.mono hbel.size);clear hb2 hbel c0 c1
    by_cases hc:(sl.length:Int)<=z
    ·rw [if_pos hc]
     have HS2:Hid ((n:Int)+(zb (ss.take (k+1)):Nat)+(z-sl.length)=left/\True):=by
      have h1:=HSUM.out.1;have h2:=HT.out.1;exact ⟨by omega,trivial⟩
     go_wp2
     go_roundw
     case rel=>exact ⟨k+1,z-sl.length,by omega,by go_num,rfl,by omega,by omega,by omega,HS2.out.1,HB2.out⟩
     case measure=>simp [intOf];omega
    ·rw [if_neg hc]
     go_wp2
     go_ret;exact ⟨⟨-1,rfl,.inl rfl⟩,HB2.out⟩
   ·have hkn:k=n:=by omega
    subst hkn;have HF:Hid (z+(k:Int)+zb ss=left/\True):=by
     have h1:=HSUM.out.1;rw [HEL.out.1] at h1;exact ⟨by omega,trivial⟩
    go_wp2
    go_ret;exact ⟨⟨z,rfl,.inr ⟨hz0,hz2,HF.out.1⟩⟩,hbel⟩
 ·go_enter Tryz.func73,Tryz.ntmps73
  go_wp2
  go_ret;exact ⟨⟨-1,rfl,.inl rfl⟩,Below.refl _ _⟩
structure Few (ss ps:List El):Prop where
 n:ss.length<=1048576
 m:ps.length<=1048576
 l:∀ s ∈ ss,s.ls.length<=1048576
 p:∀ s ∈ ps,s.ls.length<=1048576
 sum:ss.length+zb ss+ps.length+zb ps<=1048576
theorem Few.mk' {ss ps:List El} (h:ss.length+zb ss+ps.length+zb ps<=1048576):Few ss ps:=
 ⟨by omega,by omega,fun s hs=>by have:=z0e hs;omega,fun s hs=>by have:=z0e hs;omega,h⟩
theorem Few.ct {ss ps ts qs:List El} (h:Few ss ps) (h1:ts.map El.ct=ss.map El.ct) (h2:qs.map El.ct=ps.map El.ct):Few ts qs:=
 Few.mk' (by rw [zm h1,zm h2,z1p _ _ h1,z1p _ _ h2];exact h.sum)
def dp :Int × Int:=(0,0)
def rP (p:Int × Int):Prop:=(-9223372036854775808<=p.1/\p.1<=9223372036854775807)/\(-9223372036854775808<=p.2/\p.2<=9223372036854775807)
def pcs (p:Int × Int):List Value:=[.int .i64 p.1,.int .i64 p.2]
def Pls (w:World) (a:Option Addr) (ps:List (Int × Int)):Prop:=
 (∀ p ∈ ps,rP p)/\(0<ps.length->∃ b off,a=some ⟨b,off,none⟩/\b<w.heap.size/\∀ i,i<ps.length->w.cell? ⟨b,off+i*2,none⟩=some (.int .i64 (ps.getD i dp).1)/\w.cell? ⟨b,off+i*2+1,none⟩=some (.int .i64 (ps.getD i dp).2))
theorem z8k {ps:List (Int × Int)} {k:Nat} (hk:k<ps.length):ps.getD k dp ∈ ps:=by
 rw [List.getD_eq_getElem?_getD,List.getElem?_eq_getElem hk];exact List.getElem_mem hk
theorem Pls.below {w w':World} {a:Option Addr} {ps:List (Int × Int)} {B:Nat} (h:Pls w a ps) (hb:Below B w w') (hB:w.heap.size<=B):Pls w' a ps:=by
 refine ⟨h.1,fun hz=>?_⟩
 obtain ⟨b,off,rfl,hlt,hc⟩:=h.2 hz;exact ⟨b,off,rfl,Nat.lt_of_lt_of_le hlt hb.size,fun i hi=>⟨keep hb (by omega) (hc i hi).1,keep hb (by omega) (hc i hi).2⟩⟩
theorem Pls.len_pos {w:World} {a:Option Addr} {ps:List (Int × Int)} (h:Pls w a ps) (i:Nat) (hi:i<ps.length):∃ b off,a=some ⟨b,off,none⟩/\b<w.heap.size/\∀ i,i<ps.length->w.cell? ⟨b,off+i*2,none⟩=some (.int .i64 (ps.getD i dp).1)/\w.cell? ⟨b,off+i*2+1,none⟩=some (.int .i64 (ps.getD i dp).2):=h.2 (by omega)
theorem Pls.rng {w:World} {a:Option Addr} {ps:List (Int × Int)} (h:Pls w a ps) (k:Nat) (hk:k<ps.length):rP (ps.getD k dp):=h.1 _ (z8k hk)
theorem Pls.alloc {w:World} {a:Option Addr} {ps:List (Int × Int)} (h:Pls w a ps) (o:Obj):Pls (w.alloc o) a ps:=h.below ((Below.refl w.heap.size w).alloc nl o) nl
theorem zfg (ps:List (Int × Int)):(ps.flatMap pcs).length=ps.length*2:=by
 induction ps with
 | nil=>rfl
 | cons s ps ih=>rw [List.flatMap_cons,List.length_append,ih,List.length_cons];simp [pcs];omega
theorem z90 (ps:List (Int × Int)):∀ k,k<ps.length->(ps.flatMap pcs)[k*2]?=some (.int .i64 (ps.getD k dp).1)/\(ps.flatMap pcs)[k*2+1]?=some (.int .i64 (ps.getD k dp).2):=by
 induction ps with
 | nil=>intro k hk;simp at hk
 | cons s ps ih=>
  intro k hk
  cases k with
  | zero=>simp [List.flatMap_cons,pcs]
  | succ k=>
   have:=ih k (by simpa using hk)
   rw [List.flatMap_cons,show (k+1)*2=k*2+2 from by omega]
   simpa [pcs] using this
theorem zgu (s:Int × Int) (ps:List (Int × Int)):∀ k,k<ps.length->((ps.flatMap pcs).set (k*2) (.int .i64 s.1)).set (k*2+1) (.int .i64 s.2)=(ps.set k s).flatMap pcs:=by
 induction ps with
 | nil=>intro k hk;simp at hk
 | cons x ps ih=>
  intro k hk
  cases k with
  | zero=>simp [List.flatMap_cons,pcs]
  | succ k=>
   have:=ih k (by simpa using hk)
   rw [List.set_cons_succ,List.flatMap_cons,List.flatMap_cons,<-this,show (k+1)*2=k*2+2 from by omega]
   simp [pcs]
def OVp (w:World) (B:Nat) (v:Value) (ps:List (Int × Int)):Prop:=w.ownsRow B 127 2 v ps.length (ps.flatMap pcs)/\∀ p ∈ ps,rP p
def OwP (w:World) (B g cap:Nat) (ps:List (Int × Int)):Prop:=OVp w B (.slice (some ⟨g,0,none⟩) ps.length cap) ps
section
variable {w w' : World} {B : Nat} {v : Value} {ps : List (Int × Int)} {g cap : Nat}
theorem OVp.blk (h:OVp w B v ps) {k:Nat} (hk:v.ownBlock=some k):B<=k/\k<w.heap.size:=by
 rcases h.1.2 with ⟨rfl,h0⟩ | ⟨g,cap,cur,rfl,hg,hh,_⟩
 ·simp [Value.ownBlock] at hk
 ·simp [Value.ownBlock] at hk
  subst hk;exact ⟨hg,(Array.getElem?_eq_some_iff.1 hh).1⟩
theorem OVp.stay {S:Nat->Prop} (h:OVp w B v ps) (ho:Only S w w') (hs:∀ k,v.ownBlock=some k->¬S k):OVp w' B v ps:=by
 refine ⟨⟨h.1.1,?_⟩,h.2⟩;rcases h.1.2 with h' | ⟨g,cap,cur,rfl,hg,hh,r⟩
 ·exact .inl h'
 ·exact .inr ⟨g,cap,cur,rfl,hg,(ho.block g (Array.getElem?_eq_some_iff.1 hh).1 (hs g rfl)).trans hh,r⟩
theorem OVp.below (h:OVp w B v ps) (hb:Below w.heap.size w w'):OVp w' B v ps:=h.stay (Only.ofBelow (S:=fun _=>False) hb nl) (by simp)
theorem OVp.weak {B':Nat} (h:OVp w B v ps) (hB:B'<=B):OVp w B' v ps:=by
 refine ⟨⟨h.1.1,?_⟩,h.2⟩;rcases h.1.2 with h' | ⟨g,cap,cur,h',hg,r⟩
 ·exact .inl h'
 ·exact .inr ⟨g,cap,cur,h',by omega,r⟩
theorem OwP.lt (h:OwP w B g cap ps):B<=g/\g<w.heap.size:=OVp.blk h rfl
theorem OwP.cell (h:OwP w B g cap ps) (i:Nat) (hi:i<ps.length):w.cell? ⟨g,i*2,none⟩=some (.int .i64 (ps.getD i dp).1)/\w.cell? ⟨g,i*2+1,none⟩=some (.int .i64 (ps.getD i dp).2):=by
 obtain ⟨f0,f1⟩:=z90 ps i hi;exact ⟨by rw [h.1.cellAt (i*2) (by omega),f0],by rw [h.1.cellAt (i*2+1) (by omega),f1]⟩
theorem OwP.pls (h:OwP w B g cap ps):Pls w (some ⟨g,0,none⟩) ps:=⟨h.2,fun _=>⟨g,0,rfl,h.lt.2,fun i hi=>by rw [Nat.zero_add];exact h.cell i hi⟩⟩
theorem OwP.frozen (h:OwP w B g cap ps) (i:Nat):w.frozen? ⟨g,i,none⟩=false:=h.1.frozenAt i
theorem OwP.store (h:OwP w B g cap ps) (k:Nat) (hk:k<ps.length) (p:Int × Int) (hr:rP p):OwP ((w.setCell ⟨g,k*2,none⟩ (.int .i64 p.1)).setCell ⟨g,k*2+1,none⟩ (.int .i64 p.2)) B g cap (ps.set k p):=by
 have r1:=(h.1.stored (k*2) (.int .i64 p.1)).1;have r2:=(r1.stored (k*2+1) (.int .i64 p.2)).1;rw [zgu p ps k hk] at r2;refine ⟨by rw [List.length_set];exact r2,?_⟩
 intro t ht
 rcases List.mem_or_eq_of_mem_set ht with ht | rfl
 ·exact h.2 t ht
 ·exact hr
theorem OwP.other (h:OwP w B g cap ps) {p:Addr} (hp:p.block≠g) (u:Value):OwP (w.setCell p u) B g cap ps:=
 OVp.stay h ((Only.refl (fun b=>b=p.block) w).setCell (.inl rfl) u) (fun k hk e=>by
  have:g=k:=by simpa [Value.ownBlock] using hk
  exact hp (by rw [this];exact e.symm))
def MinP (w:World) (B U:Nat) (a:Option Addr) (cap:Nat) (ps:List (Int × Int)):Prop:=
 (a=none/\ps=[]/\cap=0)\/∃ g,a=some ⟨g,0,none⟩/\B<=g/\g<U/\OwP w B g cap ps
variable {a : Option Addr} {U c : Nat}
theorem MinP.pls (h:MinP w B U a cap ps):Pls w a ps:=by
 rcases h with ⟨rfl,rfl,rfl⟩ | ⟨g,rfl,_,_,h⟩
 ·exact ⟨by simp,by simp⟩
 ·exact h.pls
theorem MinP.only {S:Nat->Prop} (h:MinP w B U a cap ps) (ho:Only S w w') (hs:∀ k,B<=k->k<U->¬S k):MinP w' B U a cap ps:=by
 rcases h with h | ⟨g,rfl,h1,h2,h⟩
 ·exact .inl h
 ·exact .inr ⟨g,rfl,h1,h2,OVp.stay h ho (fun k hk=>by
   have:g=k:=by simpa [Value.ownBlock] using hk
   subst this;exact hs g h1 h2)⟩
theorem MinP.below (h:MinP w B U a cap ps) (ho:Below w.heap.size w w'):MinP w' B U a cap ps:=h.only (Only.ofBelow (S:=fun _=>False) ho nl) (by simp)
theorem MinP.mono {B' U':Nat} (h:MinP w B U a cap ps) (h1:B'<=B) (h2:U<=U'):MinP w B' U' a cap ps:=by
 rcases h with h | ⟨g,rfl,g1,g2,h⟩
 ·exact .inl h
 ·exact .inr ⟨g,rfl,by omega,by omega,OVp.weak h h1⟩
theorem MinP.row (h:MinP w B U a cap ps) {k:Nat} (hk:zg a k):B<=k/\k<U:=by
 obtain ⟨x,hx,rfl⟩:=hk;rcases h with ⟨h',_⟩ | ⟨g,h',g1,g2,_⟩
 ·rw [h'] at hx;cases hx
 ·rw [h'] at hx
  simp at hx
  rw [<-hx];exact ⟨g1,g2⟩
end
theorem Tryz.infoPl :(Tryz.prog.info? 127).map (fun i=>(i.zero,i.size,i.bytes))=some (some (.agg #[.int .i64 0,.int .i64 0]),2,16):=by kernel_rfl
theorem zcq (n:Nat):(madeCells (Value.agg #[.int .i64 0,.int .i64 0]).cells (n*2)).toList=(List.replicate n dp).flatMap pcs:=by
 apply List.ext_getElem?
 intro i
 by_cases hi:i<n*2
 ·have hd:i / 2<(List.replicate n dp).length:=by simp;omega
  have hg:(List.replicate n dp).getD (i / 2) dp=dp:=by
   rw [List.getD_eq_getElem?_getD,List.getElem?_replicate];split <;> rfl
  obtain ⟨f0,f1⟩:=z90 (List.replicate n dp) (i / 2) hd;rw [hg] at f0 f1
  simp only [madeCells,Array.toList_map,Array.toList_range,List.getElem?_map,List.getElem?_range hi,Option.map_some]
  have h3:i % 2=0\/i % 2=1:=by omega
  rcases h3 with h3 | h3
  ·rw [show i / 2*2=i from by omega] at f0
   rw [f0]
   simp [Value.cells,h3,dp]
  ·rw [show i / 2*2+1=i from by omega] at f1
   rw [f1]
   simp [Value.cells,h3,dp]
 ·rw [List.getElem?_eq_none (by simp [madeCells];omega),List.getElem?_eq_none (by rw [zfg];simp;omega)]
theorem zlm :rP dp:=by unfold rP dp;simp
theorem OwP.made {w1:World} {B g n:Nat} (h:w1.ownsRow B 127 2 (.slice (some ⟨g,0,none⟩) n n) n (madeCells (Value.agg #[.int .i64 0,.int .i64 0]).cells (n*2)).toList):OwP w1 B g n (List.replicate n dp):=by
 refine ⟨?_,fun p hp=>?_⟩
 ·rw [zcq] at h
  simpa using h
 ·rw [(List.mem_replicate.1 hp).2]
  exact zlm
theorem zf9 (n:Int) (a:Option Addr) (cap:Nat) (zs:List Int) (w:World) (hb:Byt w a zs) (hn:zs.length<=1048576) :
  Calls Tryz.prog 125 #[.agg #[.int .i64 n,.slice a zs.length cap]] w fun e w'=>
   ∃ g,e=.returned (.agg #[.int .i64 n,.slice (some ⟨g,0,none⟩) zs.length zs.length])/\Own w' w.heap.size g zs.length zs/\Below w.heap.size w w':=by
 go_enter Tryz.func125,Tryz.ntmps125
 go_wp2_with fail
 have hw:Below w.heap.size w (((w.alloc (Obj.cells #[.int .i64 n,.slice a zs.length cap] 151)).alloc (Obj.cells #[.int .i64 0,.slice none 0 0] 113)).alloc (Obj.cells #[.int .i64 n,.slice none 0 0] 113)):=
  (((Below.refl _ _).alloc nl _).alloc (by simp) _).alloc (by simp;omega) _
 refine (z35 a cap zs _ (hb.below hw nl) hn).mono ?_;rintro e w1 ⟨rfl,hown,hbel⟩;obtain ⟨hc,hf⟩:=za8 hbel;have hz:=hbel.size;have hb2:=hw.trans (hbel.mono (by simp;omega))
 simp at hc hf hz hown
 clear hbel hw;go_wp2;refine bodyPost_ret (v:=.agg #[.int .i64 n,.slice (some ⟨w.heap.size+1+1+1,0,none⟩) zs.length zs.length]) (by simp [results,Tryz.results125,go_sem,hc]) rfl ⟨_,rfl,?_,?_⟩
 ·refine Own.mono (B:=w.heap.size+1+1+1) ?_ (by omega)
  repeat (refine Own.setCell_other ?_ (by simp) _)
  exact hown
 ·repeat (refine Below.setCell ?_ (by first | (simp;done) | (simp;omega)) _)
  exact hb2
theorem zd3 (a:Option Addr) (cap:Nat) (ss:List El) (w:World) (hb:Els true w a ss) (hn:ss.length<=1048576) (hl:∀ s ∈ ss,s.ls.length<=1048576) :
  Calls Tryz.prog 86 #[.slice a ss.length cap] w fun e w'=>
   e=.returned (.slice (some ⟨w.heap.size,0,none⟩) ss.length ss.length)/\(∃ ts,CopT w' w.heap.size (.slice (some ⟨w.heap.size,0,none⟩) ss.length ss.length) ts ss)/\Below w.heap.size w w':=by
 obtain ⟨i0,hi,hz0,hz1,hz2⟩:=info_parts Tryz.infoItem;have HSS:Hid (Els true w a ss):=hb;have HLS:Hid (∀ s ∈ ss,s.ls.length<=1048576):=hl;clear hb hl;generalize hlen:ss.length=n at *;have HL:Hid (ss.length=n/\True):=⟨hlen,trivial⟩;clear hlen
 go_enter Tryz.func86,Tryz.ntmps86
 go_wp2_with (at_make;refine wpList_make_full _ rfl _ _ 45 rfl w.heap.size 113 i0 (.agg #[.int .i64 0,.slice none 0 0]) 2 Tryz.underlying45 hi hz0 hz1 .i64 .i64 _ _ n rfl rfl rfl rfl (by rw [hz2];omega) (by unfold maxLen;omega) nl ?_;intro w1 hown hgrow)
 have hbw:Below w.heap.size w w1:=(Below.refl _ _).grown hgrow nl (by intro k hk;cases hk)
 have H0:Hid (OVt w1 w.heap.size (.slice (some ⟨w.heap.size,0,none⟩) n n) ([]++List.replicate n de)):=by
  rw [List.nil_append];rw [z8o] at hown;exact ⟨by rw [List.length_replicate];exact hown⟩
 clear hown hgrow hi hz0 hz1 hz2
 go_loopw [4] (fun i wr=>∃ (k:Nat) (bs:List El),k<=n/\i=.int .i64 k/\bs.length=k/\bs.map El.ct=(ss.take k).map El.ct/\OVt wr w.heap.size (.slice (some ⟨w.heap.size,0,none⟩) n n) (bs++List.replicate (n-k) de)/\Deep wr w.heap.size bs/\(∀ e ∈ bs,rE true e)/\Below w.heap.size w wr) (fun i _=>n-(intOf i).toNat)
 case atStart=>exact ⟨0,[],Nat.zero_le _,rfl,rfl,by simp,H0.out,Deep.nil _ _,by simp,hbw⟩
 case round=>
  clear H0 hbw;obtain ⟨k,bs,hk,rfl,hbl,hct,hown,hdeep,hrg0,hbel⟩:=hrel;have HBL:Hid (bs.length=k/\bs.map El.ct=(ss.take k).map El.ct):=⟨hbl,hct⟩;have HO:Hid (OVt wr w.heap.size (.slice (some ⟨w.heap.size,0,none⟩) n n) (bs++List.replicate (n-k) de)/\Deep wr w.heap.size bs/\(∀ e ∈ bs,rE true e)):=⟨hown,hdeep,hrg0⟩;clear hbl hct hown hdeep hrg0
  by_cases hlt:k<n
  ·obtain ⟨b,off,rfl,hb1,c0,c1,hby,hrg⟩:=(HSS.out.below hbel nl).pen k (by rw [HL.out.1];exact hlt)
   have hll:=HLS.out _ (zf (k:=k) (by rw [HL.out.1];exact hlt))
   have HCS:Hid ((ss.take (k+1)).map El.ct=(ss.take k).map El.ct++[(ss.getD k de).ct]/\True):=⟨z0d ss k (by rw [HL.out.1];exact hlt),trivial⟩
   generalize ss.getD k de=s at *;obtain ⟨sn,sa,sc,sl⟩:=s
   simp only at c0 c1 hby hll
   have HRG:Hid (rE true ⟨sn,sa,sc,sl⟩):=hrg;have HBY:Hid (Byt wr sa sl):=hby;clear hrg hby;go_wp2_with fail
   refine (zf9 sn sa sc sl wr HBY.out hll).mono ?_;rintro e w2 ⟨g2,rfl,ho2,hb2⟩;have hlt2:=ho2.lt;have hlo:(bs++List.replicate (n-k) de).length=n:=by rw [List.length_append,List.length_replicate,HBL.out.1];omega
   have hgd:=z18 bs (n-k) k (by rw [HBL.out.1];exact Nat.le_refl _)
   have hO2:OVt w2 w.heap.size (.slice (some ⟨w.heap.size,0,none⟩) n n) (bs++List.replicate (n-k) de):=HO.out.1.below hb2;have hs1:=hO2.store k (by omega) ⟨sn,none,0,[]⟩ 0 (by simp [eW]) (.int .i64 sn) (by rw [hgd];rfl) (g:=w.heap.size) rfl
   have hst:=hs1.store k (by rw [List.length_set];omega) ⟨sn,some ⟨g2,0,none⟩,sl.length,sl⟩ 1 (by simp [eW]) (.slice (some ⟨g2,0,none⟩) sl.length sl.length) (by rw [List.getD_eq_getElem?_getD,List.getElem?_set_self (by omega)];rfl) (g:=w.heap.size) rfl
   rw [List.set_set,z2a bs (n-k) k _ HBL.out.1 (by omega),show n-k-1=n-(k+1) from by omega,show k*eW true+0=k*2 from by simp [eW],show k*eW true+1=k*2+1 from by simp [eW]] at hst
   have hdp:Deep w2 w.heap.size (bs++[⟨sn,some ⟨g2,0,none⟩,sl.length,sl⟩]):=(HO.out.2.1.below hb2).snoc (U:=wr.heap.size) (.inr ⟨_,rfl,hlt2.1,hlt2.2,ho2⟩) (fun x hx k hk=>HO.out.2.1.lt x hx k hk) hbel.size
   have HDP:Hid (Deep ((w2.setCell ⟨w.heap.size,k*2,none⟩ (.int .i64 sn)).setCell ⟨w.heap.size,k*2+1,none⟩ (.slice (some ⟨g2,0,none⟩) sl.length sl.length)) w.heap.size (bs++[⟨sn,some ⟨g2,0,none⟩,sl.length,sl⟩])):=
    hdp.stay (S:=fun b=>b=w.heap.size) (((Only.refl (fun b=>b=w.heap.size) w2).setCell (p:=⟨w.heap.size,k*2,none⟩) (.inl rfl) _).setCell (p:=⟨w.heap.size,k*2+1,none⟩) (.inl rfl) _) (fun x hx j hj e=>hO2.other (hdp.mine x hx) (g:=w.heap.size) rfl (e ▸ hj))
   have HST:Hid _:=hst;obtain ⟨g',cap',e',_,_,hfz,hli⟩:=hO2.cell k (by omega)
   obtain ⟨rfl,-,rfl⟩:w.heap.size=g'/\_/\n=cap':=by simpa using e'
   have f0:=hfz (k*2);have f1:=hfz (k*2+1);have l1:=(hli k (by omega)).c0 rfl
   have l2:=(hli k (by omega)).c1
   rw [hgd] at l1 l2
   simp only [eW,eO,cond_true] at l1 l2
   have HB2:Hid (Below w.heap.size w w2):=hbel.trans (hb2.mono hbel.size);have HRN:Hid (∀ e ∈ bs++[⟨sn,some ⟨g2,0,none⟩,sl.length,sl⟩],rE true e):=z7m HO.out.2.2 ⟨HRG.out.lo,HRG.out.hi,HRG.out.len,HRG.out.zero⟩;clear hst hs1 hO2 ho2 hb2 HO hbel HBY c0 c1 hdp hfz hli e' HRG hlo hgd;go_wp2;go_roundw
   case rel=>exact ⟨k+1,bs++[⟨sn,some ⟨g2,0,none⟩,sl.length,sl⟩],by omega,by go_num,by rw [List.length_append,HBL.out.1];rfl,by rw [List.map_append,HBL.out.2,HCS.out.1];rfl,HST.out,HDP.out,HRN.out,(HB2.out.setCell (p:=⟨w.heap.size,_,none⟩) nl _).setCell (p:=⟨w.heap.size,_,none⟩) nl _⟩
   case measure=>simp [intOf];omega
  ·have hkn:k=n:=by omega
   subst hkn;have HA:Hid (CopT wr w.heap.size (.slice (some ⟨w.heap.size,0,none⟩) k k) bs ss):=by
    have h1:=HO.out.1;rw [Nat.sub_self,List.replicate_zero,List.append_nil] at h1;exact ⟨by rw [HBL.out.2,List.take_of_length_le (by rw [HL.out.1];exact Nat.le_refl _)],h1,HO.out.2.1,HO.out.2.2⟩
   clear HO;go_wp2;go_ret;exact ⟨rfl,⟨bs,HA.out⟩,hbel⟩
theorem ze8 (E O:Int) (a:Option Addr) (cap:Nat) (es:List El) (w:World) (hb:Els true w a es) (hn:es.length<=1048576) (hl:∀ s ∈ es,s.ls.length<=1048576) :
  Calls Tryz.prog 49 #[.agg #[.int .i64 E,.int .i64 O,.slice a es.length cap]] w fun e w'=>
   (∃ g ts,e=.returned (.agg #[.int .i64 E,.int .i64 O,.slice (some ⟨g,0,none⟩) es.length es.length])/\CopT w' w.heap.size (.slice (some ⟨g,0,none⟩) es.length es.length) ts es)/\Below w.heap.size w w':=by
 have HB:Hid (Els true w a es):=hb;have HL:Hid (∀ s ∈ es,s.ls.length<=1048576):=hl;clear hb hl
 go_enter Tryz.func49,Tryz.ntmps49
 go_wp2_with fail
 have hw:Below w.heap.size w (((w.alloc (Obj.cells #[.int .i64 E,.int .i64 O,.slice a es.length cap] 32)).alloc (Obj.cells #[.int .i64 0,.int .i64 0,.slice none 0 0] 47)).alloc (Obj.cells #[.int .i64 E,.int .i64 O,.slice none 0 0] 47)):=
  (((Below.refl _ _).alloc nl _).alloc (by simp) _).alloc (by simp;omega) _
 refine (zd3 a cap es _ (HB.out.below hw nl) hn HL.out).mono ?_;rintro e w1 ⟨rfl,⟨ts,hcop⟩,hbel⟩;obtain ⟨hc,hf⟩:=za8 hbel;have hz:=hbel.size;have HB2:Hid (Below w.heap.size w w1):=hw.trans (hbel.mono (by simp;omega))
 simp at hc hf hz hcop
 have HC:Hid _:=hcop;clear hbel hw hcop;go_wp2;refine bodyPost_ret (v:=.agg #[.int .i64 E,.int .i64 O,.slice (some ⟨w.heap.size+1+1+1,0,none⟩) es.length es.length]) (by simp [results,Tryz.results49,go_sem,hc]) rfl ⟨⟨_,ts,rfl,?_⟩,?_⟩
 ·refine (HC.out.stay (S:=fun b=>b=w.heap.size+1\/b=w.heap.size+1+1) ?_ (by intro k hk;omega)).weak (by omega)
  repeat (first | exact Only.refl _ _ | refine Only.setCell ?_ (by first | exact .inl (.inl rfl) | exact .inl (.inr rfl)) _)
 ·have hb2:=HB2.out
  repeat (first | exact hb2 | refine Below.setCell ?_ (by first | (simp;done) | (simp;omega)) _)
theorem zeq (n:Int) (a:Option Addr) (cap:Nat) (zs:List Int) (left:Int) (w:World) (hn:zs.length<=maxLen) (h0:0<=left) (h1:left<=1048576) :
  Calls Tryz.prog 114 #[.agg #[.int .i64 n,.slice a zs.length cap],.int .i64 left] w fun e w'=>e=.returned (.int .i64 (if (zs.length:Int)<=left then left-zs.length else -1))/\Below w.heap.size w w':=by
 by_cases h:(zs.length:Int)<=left
 ·go_enter Tryz.func114,Tryz.ntmps114
  go_wp2_with (go_at_call 112;refine (z1c _ _ _ _ _ hn h0 h1).mono ?_;rintro e w' ⟨rfl,rfl⟩;rw [if_pos h])
  go_ret;exact ⟨rfl,(Below.refl _ _).alloc nl _⟩
 ·go_enter Tryz.func114,Tryz.ntmps114
  go_wp2_with (go_at_call 112;refine (z1c _ _ _ _ _ hn h0 h1).mono ?_;rintro e w' ⟨rfl,rfl⟩;rw [if_neg h])
  go_ret;exact ⟨rfl,(Below.refl _ _).alloc nl _⟩
theorem zcu (a:Option Addr) (cap:Nat) (ss:List El) (left:Int) (w:World) (hb:Els true w a ss) (hm:ss.length<=maxLen) (h0:0<=left) (h1:left<=1048576) :
  Calls Tryz.prog 75 #[.slice a ss.length cap,.int .i64 left] w fun e w'=>(∃ z:Int,e=.returned (.int .i64 z)/\(z=-1\/(0<=z/\z<=left/\z+ss.length+zb ss=left)))/\Below w.heap.size w w':=by
 have HSS:Hid (Els true w a ss):=hb;unfold maxLen at hm;clear hb;have HEL:Hid (zb (ss.take ss.length)=zb ss/\True):=⟨by rw [List.take_length],trivial⟩
 generalize hlen:ss.length=n at *;have HL:Hid (ss.length=n/\True):=⟨hlen,trivial⟩;clear hlen
 by_cases hn:(n:Int)<=left
 ·go_enter Tryz.func75,Tryz.ntmps75
  go_wp2
  go_loopw [1,5] (fun l i wr=>∃ (k:Nat) (z:Int),k<=n/\i=.int .i64 k/\l=.int .i64 z/\0<=z/\z<=1048576/\z<=left/\(n:Int)+(zb (ss.take k):Nat)+z=left/\Below w.heap.size w wr) (fun _ i _=>n-(intOf i).toNat)
  case atStart=>exact ⟨0,left-n,Nat.zero_le _,rfl,rfl,by omega,by omega,by omega,by simp [zb];omega,Below.refl _ _⟩
  case round=>
   obtain ⟨k,z,hk,rfl,rfl,hz0,hz1,hz2,hsum,hbel⟩:=hrel;have HSUM:Hid ((n:Int)+(zb (ss.take k):Nat)+z=left/\True):=⟨hsum,trivial⟩;clear hsum
   by_cases hlt:k<n
   ·obtain ⟨b,off,rfl,hb1,c0,c1,hby,hrg⟩:=(HSS.out.below hbel nl).pen k (by rw [HL.out.1];exact hlt)
    have HT:Hid (zb (ss.take (k+1))=zb (ss.take k)+(ss.getD k de).ls.length/\True):=⟨z0a ss k (by rw [HL.out.1];exact hlt),trivial⟩
    generalize ss.getD k de=s at *;obtain ⟨sn,sa,sc,sl⟩:=s
    simp only at c0 c1 HT
    have hml:=hrg.len
    simp only at hml
    clear hby hrg;have HSZ:=zeq sn sa sc sl z wr hml hz0 hz1;go_wp2_with fail
    refine HSZ.mono ?_;clear HSZ;rintro e w1 ⟨rfl,hb2⟩;have HB2:Hid (Below w.heap.size w w1):=hbel.trans (hb2.mono hbel.size);clear hb2 hbel c0 c1
    by_cases hc:(sl.length:Int)<=z
    ·rw [if_pos hc]
     have HS2:Hid ((n:Int)+(zb (ss.take (k+1)):Nat)+(z-sl.length)=left/\True):=by
      have h1:=HSUM.out.1;have h2:=HT.out.1;exact ⟨by omega,trivial⟩
     go_wp2
     go_roundw
     case rel=>exact ⟨k+1,z-sl.length,by omega,by go_num,rfl,by omega,by omega,by omega,HS2.out.1,HB2.out⟩
     case measure=>simp [intOf];omega
    ·rw [if_neg hc]
     go_wp2
     go_ret;exact ⟨⟨-1,rfl,.inl rfl⟩,HB2.out⟩
   ·have hkn:k=n:=by omega
    subst hkn;have HF:Hid (z+(k:Int)+zb ss=left/\True):=by
     have h1:=HSUM.out.1;rw [HEL.out.1] at h1;exact ⟨by omega,trivial⟩
    go_wp2
    go_ret;exact ⟨⟨z,rfl,.inr ⟨hz0,hz2,HF.out.1⟩⟩,hbel⟩
 ·go_enter Tryz.func75,Tryz.ntmps75
  go_wp2
  go_ret;exact ⟨⟨-1,rfl,.inl rfl⟩,Below.refl _ _⟩
theorem ze5 (E O:Int) (a:Option Addr) (cap:Nat) (es:List El) (w:World) (hb:Els true w a es) (hm:es.length<=maxLen) (left:Int) (h0:0<=left) (h1:left<=1048576) :
  Calls Tryz.prog 43 #[.agg #[.int .i64 E,.int .i64 O,.slice a es.length cap],.int .i64 left] w fun e w'=>(∃ z:Int,e=.returned (.int .i64 z)/\(z=-1\/(0<=z/\z<=left/\z+es.length+zb es=left)))/\Below w.heap.size w w':=by
 have hw:Below w.heap.size w (w.alloc (Obj.cells #[.int .i64 E,.int .i64 O,.slice a es.length cap] 32)):=ba;have HS:=zcu a cap es left _ (hb.below hw nl) hm h0 h1;clear hb hm
 go_enter Tryz.func43,Tryz.ntmps43
 go_wp2_with fail
 refine HS.mono ?_;clear HS;rintro e w1 ⟨⟨z,rfl,hz⟩,hb1⟩;have HB1:Hid (Below w.heap.size w w1):=hw.trans (hb1.mono (by simp))
 clear hw hb1;rcases hz with rfl | ⟨hz0,hz1,hz2⟩
 ·go_wp2
  go_ret;exact ⟨⟨-1,rfl,.inl rfl⟩,HB1.out⟩
 ·have HZ:Hid (z+(es.length:Int)+zb es=left/\True):=⟨hz2,trivial⟩
  clear hz2;go_wp2;go_ret;exact ⟨⟨z,rfl,.inr ⟨hz0,hz1,HZ.out.1⟩⟩,HB1.out⟩
set_option linter.unusedSimpArgs false
structure DkV where
 sa:Option Addr
 sc:Nat
 ss:List El
 pa:Option Addr
 pc:Nat
 ps:List El
 E:Int
 O:Int
 ma:Option Addr
 mc:Nat
 ms:List (Int × Int)
 va:Option Addr
 vc:Nat
 vs:List (Int × Int)
 ca:Option Addr
 cc:Nat
 cs:List Int
 F:Int
 G:Int
 oa:Option Addr
 oc:Nat
 os:List El
def DkV.cells (d:DkV):Array Value:=#[.slice d.sa d.ss.length d.sc,.slice d.pa d.ps.length d.pc,.int .i64 d.E,.int .i64 d.O,.slice d.ma d.ms.length d.mc,.slice d.va d.vs.length d.vc,.slice d.ca d.cs.length d.cc,.int .i64 d.F,.int .i64 d.G,.slice d.oa d.os.length d.oc]
structure DkI (w:World) (d:DkV):Prop where
 raw:RawI w d.sa d.pa d.ss d.ps
 map:Pls w d.ma d.ms
 sav:Pls w d.va d.vs
 chn:Ins w d.ca d.cs
 opn:Els true w d.oa d.os
theorem DkI.below {w w':World} {d:DkV} {B:Nat} (h:DkI w d) (hb:Below B w w') (hB:w.heap.size<=B):DkI w' d:=
 ⟨h.raw.below hb hB,h.map.below hb hB,h.sav.below hb hB,h.chn.below hb hB,h.opn.below hb hB⟩
structure DkM (d:DkV):Prop where
 ss:d.ss.length<=maxLen
 ps:d.ps.length<=maxLen
 ms:d.ms.length<=maxLen
 vs:d.vs.length<=maxLen
 cs:d.cs.length<=maxLen
 os:d.os.length<=maxLen
def dkN (d:DkV):Nat:=d.ss.length+zb d.ss+d.ps.length+zb d.ps+d.ms.length+d.vs.length+d.cs.length+d.os.length+zb d.os
structure DkF (d:DkV):Prop where
 raw:Few d.ss d.ps
 ms:d.ms.length<=1048576
 vs:d.vs.length<=1048576
 cs:d.cs.length<=1048576
 opn:FewI d.os
 sum:dkN d<=1048576
theorem DkF.mk' {d:DkV} (h:dkN d<=1048576):DkF d:=by
 unfold dkN at h;exact ⟨Few.mk' (by omega),by omega,by omega,by omega,FewI.mk' (by omega),h⟩
structure DkS (d e:DkV):Prop where
 ss:d.ss.map El.ct=e.ss.map El.ct
 ps:d.ps.map El.ct=e.ps.map El.ct
 E:d.E=e.E
 O:d.O=e.O
 ms:d.ms=e.ms
 vs:d.vs=e.vs
 cs:d.cs=e.cs
 F:d.F=e.F
 G:d.G=e.G
 os:d.os.map El.ct=e.os.map El.ct
theorem DkS.symm {d e:DkV} (h:DkS d e):DkS e d:=⟨h.ss.symm,h.ps.symm,h.E.symm,h.O.symm,h.ms.symm,h.vs.symm,h.cs.symm,h.F.symm,h.G.symm,h.os.symm⟩
theorem DkS.trans {d e f:DkV} (h:DkS d e) (k:DkS e f):DkS d f:=⟨h.ss.trans k.ss,h.ps.trans k.ps,h.E.trans k.E,h.O.trans k.O,h.ms.trans k.ms,h.vs.trans k.vs,h.cs.trans k.cs,h.F.trans k.F,h.G.trans k.G,h.os.trans k.os⟩
theorem DkS.n {d e:DkV} (h:DkS d e):dkN d=dkN e:=by
 unfold dkN;rw [zm h.ss,zm h.ps,zm h.os,z1p _ _ h.ss,z1p _ _ h.ps,z1p _ _ h.os,h.ms,h.vs,h.cs]
theorem DkF.same {d e:DkV} (h:DkF d) (hs:DkS e d):DkF e:=DkF.mk' (by rw [hs.n];exact h.sum)
structure Dk10 (W:World) (b:Nat) (d:DkV):Prop where
 c0:W.cell? ⟨b,0,none⟩=some (.slice d.sa d.ss.length d.sc)
 c1:W.cell? ⟨b,1,none⟩=some (.slice d.pa d.ps.length d.pc)
 c2:W.cell? ⟨b,2,none⟩=some (.int .i64 d.E)
 c3:W.cell? ⟨b,3,none⟩=some (.int .i64 d.O)
 c4:W.cell? ⟨b,4,none⟩=some (.slice d.ma d.ms.length d.mc)
 c5:W.cell? ⟨b,5,none⟩=some (.slice d.va d.vs.length d.vc)
 c6:W.cell? ⟨b,6,none⟩=some (.slice d.ca d.cs.length d.cc)
 c7:W.cell? ⟨b,7,none⟩=some (.int .i64 d.F)
 c8:W.cell? ⟨b,8,none⟩=some (.int .i64 d.G)
 c9:W.cell? ⟨b,9,none⟩=some (.slice d.oa d.os.length d.oc)
 lt:b<W.heap.size
theorem Dk10.keep {W W':World} {b B:Nat} {d:DkV} (h:Dk10 W b d) (hb:Below B W W') (hB:b<B):Dk10 W' b d:=⟨kp hb hB h.c0,kp hb hB h.c1,kp hb hB h.c2,kp hb hB h.c3,kp hb hB h.c4,kp hb hB h.c5,kp hb hB h.c6,kp hb hB h.c7,kp hb hB h.c8,kp hb hB h.c9,Nat.lt_of_lt_of_le h.lt hb.size⟩
theorem Dk10.step {W W':World} {b:Nat} {d:DkV} (h:Dk10 W b d) (hb:Below W.heap.size W W'):Dk10 W' b d:=h.keep hb h.lt
theorem Dk10.new (w:World) (d:DkV) (T:TypeId):Dk10 (w.alloc (Obj.cells #[.slice d.sa d.ss.length d.sc,.slice d.pa d.ps.length d.pc,.int .i64 d.E,.int .i64 d.O,.slice d.ma d.ms.length d.mc,.slice d.va d.vs.length d.vc,.slice d.ca d.cs.length d.cc,.int .i64 d.F,.int .i64 d.G,.slice d.oa d.os.length d.oc] T)) w.heap.size d:=⟨by simp,by simp,by simp,by simp,by simp,by simp,by simp,by simp,by simp,by simp,by simp⟩
theorem Dk10.alloc {W:World} {b:Nat} {d:DkV} (h:Dk10 W b d) (o:Obj):Dk10 (W.alloc o) b d:=h.step ((Below.refl W.heap.size W).alloc nl o)
theorem Dk10.drew {W:World} {b:Nat} {d:DkV} (h:Dk10 W b d):Dk10 W.drew b d:=h.step ((Below.refl W.heap.size W).drew)
structure RawV (W:World) (B X:Nat) (vs vp:Value) (ss ps:List El):Prop where
 o:RawO W B vs vp ss ps
 r:∀ k,z1t vs vp ss ps k->k<X
theorem RawO.v {W:World} {B:Nat} {vs vp:Value} {ss ps:List El} (h:RawO W B vs vp ss ps):RawV W B W.heap.size vs vp ss ps:=⟨h,fun k hk=>(h.inside k hk).2⟩
theorem RawV.stab {lo hi B X:Nat} {vs vp:Value} {ss ps:List El} (h1:lo<=B) (h2:X<=hi):Stab lo hi (fun W=>RawV W B X vs vp ss ps):=fun T W W' hp ho ht hl=>
 ⟨hp.o.stay ho (fun k hk=>ht k (by have:=(hp.o.inside k hk).1;omega) (by have:=hp.r k hk;omega)),hp.r⟩
theorem z0z {lo hi B U:Nat} {a:Option Addr} {c:Nat} {zs:List (Int × Int)} (h1:lo<=B) (h2:U<=hi):Stab lo hi (fun W=>MinP W B U a c zs):=fun T W W' hp ho ht hl=>hp.only ho (fun k hk1 hk2=>ht k (by omega) (by omega))
structure DkO (W:World) (B B1 B2 B3 B4 Z:Nat) (d:DkV):Prop where
 raw:RawV W B B1 (.slice d.sa d.ss.length d.sc) (.slice d.pa d.ps.length d.pc) d.ss d.ps
 map:MinP W B1 B2 d.ma d.mc d.ms
 sav:MinP W B2 B3 d.va d.vc d.vs
 chn:MinI W B3 B4 d.ca d.cc d.cs
 opn:CopV W B4 Z (.slice d.oa d.os.length d.oc) d.os d.os
 ord:B<=B1/\B1<=B2/\B2<=B3/\B3<=B4/\B4<=Z
theorem DkO.stab {lo hi B B1 B2 B3 B4 Z:Nat} {d:DkV} (h1:lo<=B) (h2:Z<=hi):Stab lo hi (fun W=>DkO W B B1 B2 B3 B4 Z d):=fun T W W' hp ho ht hl=>by
 have o:=hp.ord;exact ⟨RawV.stab (by omega) (by omega) T W W' hp.raw ho ht hl,z0z (by omega) (by omega) T W W' hp.map ho ht hl,z0z (by omega) (by omega) T W W' hp.sav ho ht hl,Stab.minI (by omega) (by omega) T W W' hp.chn ho ht hl,CopV.stab (by omega) (by omega) T W W' hp.opn ho ht hl,o⟩
theorem DkO.inn {W:World} {B B1 B2 B3 B4 Z:Nat} {d:DkV} (h:DkO W B B1 B2 B3 B4 Z d):DkI W d:=⟨h.raw.o.inn,h.map.pls,h.sav.pls,h.chn.byt,h.opn.cop.its.els⟩
theorem DkO.its {W:World} {B B1 B2 B3 B4 Z:Nat} {d:DkV} (h:DkO W B B1 B2 B3 B4 Z d):ItI W d.oa d.os:=h.opn.cop.its
end Go.Proofs.YtaibkchbkedjnaaGreatDoor
