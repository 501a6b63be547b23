/- Lemmas on the way. -/
import Derived.Test.YtaibkchbkedjnaaGreatDoorElD
import Derived.Deep.RegionHeld3
set_option maxRecDepth 20000
set_option maxHeartbeats 16000000
namespace Go.Proofs.YtaibkchbkedjnaaGreatDoor
open Go.RowKit
set_option linter.unusedVariables false
structure OVt (w:World) (B:Nat) (v:Value) (es:List El):Prop where
 own:w.ownsRow B 113 (eW true) v es.length (es.flatMap (El.cells true))
section
variable {w w' : World} {B : Nat} {v : Value} {es : List El}
theorem OVt.nil (w:World) (B:Nat):OVt w B (.slice none 0 0) []:=⟨⟨by simp,.inl ⟨rfl,rfl⟩⟩⟩
theorem OVt.form (h:OVt w B v es):∃ (a:Option Addr) (c:Nat),v=.slice a es.length c:=by
 rcases h.own.2 with ⟨rfl,h0⟩ | ⟨g,cap,cur,rfl,_⟩
 ·exact ⟨none,0,by rw [h0]⟩
 ·exact ⟨_,_,rfl⟩
theorem OVt.blk (h:OVt w B v es) {k:Nat} (hk:v.ownBlock=some k):B≤k∧k<w.heap.size:=by
 rcases h.own.2 with ⟨rfl,h0⟩ | ⟨g,cap,cur,rfl,hg,hh,_⟩
 ·simp [Value.ownBlock] at hk
 ·simp [Value.ownBlock] at hk
  subst hk
  exact ⟨hg,(Array.getElem?_eq_some_iff.1 hh).1⟩
theorem OVt.stay {S:Nat→Prop} (h:OVt w B v es) (ho:Only S w w') (hs:∀ k,v.ownBlock=some k→¬S k):OVt w' B v es:=by
 refine ⟨⟨h.own.1,?_⟩⟩
 rcases h.own.2 with h' | ⟨g,cap,cur,rfl,hg,hh,r⟩
 ·exact .inl h'
 ·exact .inr ⟨g,cap,cur,rfl,hg,(ho.block g (Array.getElem?_eq_some_iff.1 hh).1 (hs g rfl)).trans hh,r⟩
theorem OVt.below (h:OVt w B v es) (hb:Below w.heap.size w w'):OVt w' B v es:=h.stay (Only.ofBelow (S:=fun _=>False) hb nl) (by simp)
theorem OVt.weak {B':Nat} (h:OVt w B v es) (hB:B'≤B):OVt w B' v es:=by
 refine ⟨⟨h.own.1,?_⟩⟩
 rcases h.own.2 with h' | ⟨g,cap,cur,h',hg,r⟩
 ·exact .inl h'
 ·exact .inr ⟨g,cap,cur,h',by omega,r⟩
theorem OVt.cell (h:OVt w B v es) (k:Nat) (hk:k<es.length):∃ g cap,v=.slice (some ⟨g,0,none⟩) es.length cap∧B≤g∧g<w.heap.size∧(∀ i,w.frozen? ⟨g,i,none⟩=false)∧∀ i,i<es.length→LieE true w g (i*eW true) (es.getD i de):=by
 rcases h.own.2 with ⟨_,h0⟩ | ⟨g,cap,cur,rfl,hg,hh,r⟩
 ·omega
 ·refine ⟨g,cap,rfl,hg,(Array.getElem?_eq_some_iff.1 hh).1,fun i=>h.own.frozenAt i,fun i hi=>?_⟩
  have hp:i*eW true+eW true≤es.length*eW true:=by rw [show i*eW true+eW true=(i+1)*eW true from by rw [Nat.add_mul,Nat.one_mul]];exact Nat.mul_le_mul_right _ hi
  refine ⟨fun hp1=>?_,?_⟩
  ·have e0:=eflat_get true es i hi 0 (by simp [eW])
   rw [Nat.add_zero] at e0
   rw [h.own.cellAt (i*eW true) (by simp [eW] at hp ⊢;omega),e0]
   rfl
  ·rw [h.own.cellAt (i*eW true+eO true) (by simp [eW,eO] at hp ⊢;omega),eflat_get true es i hi (eO true) (by simp [eW,eO])]
   rfl
theorem OVt.els {a:Option Addr} {n c:Nat} (h:OVt w B (.slice a n c) es) (hr:∀ e ∈ es,rE true e∧Byt w e.a e.ls):Els true w a es:=by
 refine ⟨hr,fun hz=>?_⟩
 obtain ⟨g,cap,e,h1,h2,_,h4⟩:=h.cell 0 hz
 simp at e
 obtain ⟨rfl,rfl,rfl⟩:=e
 exact ⟨g,0,rfl,h2,fun i hi=>by rw [Nat.zero_add];exact h4 i hi⟩
theorem OVt.store (h:OVt w B v es) (k:Nat) (hk:k<es.length) (e:El) (j:Nat) (hj:j<eW true) (u:Value) (he:((es.getD k de).cells true).set j u=e.cells true) {g:Nat} (hg:v.ownBlock=some g):OVt (w.setCell ⟨g,k*eW true+j,none⟩ u) B v (es.set k e):=by
 obtain ⟨a,c,rfl⟩:=h.form
 have hv:∃ g',a=some ⟨g',0,none⟩:=by
  obtain ⟨g',cap,e,_⟩:=h.cell k hk
  simp at e
  exact ⟨g',e.1⟩
 obtain ⟨g',rfl⟩:=hv
 obtain rfl:g'=g:=by simpa [Value.ownBlock] using hg
 have r:=(h.own.stored (k*eW true+j) u).1
 rw [eflat_set true es e j hj u k hk he] at r
 exact ⟨by rw [List.length_set];exact r⟩
theorem OVt.other (h:OVt w B v es) {a:Option Addr} {B' U c:Nat} {zs:List Int} (hm:Mine w B' U a c zs) {g:Nat} (hg:v.ownBlock=some g):¬rowOf a g:=by
 rintro ⟨x,hx,hxg⟩
 rcases hm with ⟨h',_⟩ | ⟨g',h',g1,g2,ho⟩
 ·rw [h'] at hx;cases hx
 ·rw [h'] at hx
  simp at hx
  rw [←hx] at hxg
  simp at hxg
  subst hxg
  rcases ho.1.2 with ⟨e,_⟩ | ⟨k,cap1,cur1,e,_,hh,_⟩
  ·simp at e
  ·obtain rfl:g'=k:=by simp at e;exact e.1
   rcases h.own.2 with ⟨e2,_⟩ | ⟨k2,cap2,cur2,e2,_,hh2,_⟩
   ·subst e2;simp [Value.ownBlock] at hg
   ·subst e2
    obtain rfl:k2=g':=by simpa [Value.ownBlock] using hg
    rw [hh] at hh2
    simp at hh2
end
theorem Tryz.infoItem :(Tryz.prog.info? 113).map (fun i=>(i.zero,i.size,i.bytes))=some (some (.agg #[.int .i64 0,.slice none 0 0]),2,32):=by kernel_rfl
structure CopT (w:World) (B:Nat) (v:Value) (ts ss:List El):Prop where
 ct:ts.map El.ct=ss.map El.ct
 row:OVt w B v ts
 deep:Deep w B ts
 rng:∀ e ∈ ts,rE true e
theorem CopT.stay {S:Nat→Prop} {w w':World} {B:Nat} {v:Value} {ts ss:List El} (h:CopT w B v ts ss) (ho:Only S w w') (hs:∀ k,B≤k→¬S k):CopT w' B v ts ss:=
 ⟨h.ct,h.row.stay ho (fun k hk=>hs k (h.row.blk hk).1),h.deep.stay ho (fun e he k hk=>hs k ((h.deep.mine e he).rowE hk).1),h.rng⟩
theorem CopT.below {w w':World} {B:Nat} {v:Value} {ts ss:List El} (h:CopT w B v ts ss) (hb:Below w.heap.size w w'):CopT w' B v ts ss:=⟨h.ct,h.row.below hb,h.deep.below hb,h.rng⟩
theorem CopT.weak {w:World} {B B':Nat} {v:Value} {ts ss:List El} (h:CopT w B v ts ss) (hB:B'≤B):CopT w B' v ts ss:=⟨h.ct,h.row.weak hB,h.deep.weak hB,h.rng⟩
theorem Mine.capM {w:World} {B U:Nat} {a:Option Addr} {c:Nat} {zs:List Int} (h:Mine w B U a c zs):zs.length≤c:=by
 rcases h with ⟨-,rfl,rfl⟩ | ⟨g,-,-,-,h⟩
 ·simp
 ·rcases h.1.2 with ⟨e,_⟩ | ⟨g',cap',cur,e,-,-,r,-⟩
  ·simp at e
  ·simp at e
   omega
structure ItI (w:World) (a:Option Addr) (es:List El):Prop where
 els:Els true w a es
 cap:∀ e ∈ es,e.ls.length≤e.c
theorem ItI.below {w w':World} {a:Option Addr} {es:List El} {B:Nat} (h:ItI w a es) (hb:Below B w w') (hB:w.heap.size≤B):ItI w' a es:=⟨h.els.below hb hB,h.cap⟩
theorem CopT.its {w:World} {B n c:Nat} {a:Option Addr} {ts ss:List El} (h:CopT w B (.slice a n c) ts ss):ItI w a ts:=
 ⟨h.row.els (fun e he=>⟨h.rng e he,h.deep.byt e he⟩),fun e he=>(h.deep.mine e he).capM⟩
structure Box3 (W:World) (b:Nat) (x y z:Value):Prop where
 c0:W.cell? ⟨b,0,none⟩=some x
 c1:W.cell? ⟨b,1,none⟩=some y
 c2:W.cell? ⟨b,2,none⟩=some z
 f0:W.frozen? ⟨b,0,none⟩=false
 f1:W.frozen? ⟨b,1,none⟩=false
 f2:W.frozen? ⟨b,2,none⟩=false
 lt:b<W.heap.size
theorem Box3.new (w:World) (x y z:Value) (T:TypeId):Box3 (w.alloc (Obj.cells #[x,y,z] T)) w.heap.size x y z:=⟨by simp,by simp,by simp,by simp,by simp,by simp,by simp⟩
theorem Box3.keep {W W':World} {b B:Nat} {x y z:Value} (h:Box3 W b x y z) (hb:Below B W W') (hB:b<B):Box3 W' b x y z:=
 ⟨kp hb hB h.c0,kp hb hB h.c1,kp hb hB h.c2,(hb.frozen (p:=⟨b,0,none⟩) hB).trans h.f0,(hb.frozen (p:=⟨b,1,none⟩) hB).trans h.f1,(hb.frozen (p:=⟨b,2,none⟩) hB).trans h.f2,Nat.lt_of_lt_of_le h.lt hb.size⟩
theorem Box3.step {W W':World} {b:Nat} {x y z:Value} (h:Box3 W b x y z) (hb:Below W.heap.size W W'):Box3 W' b x y z:=h.keep hb h.lt
theorem Box3.alloc {W:World} {b:Nat} {x y z:Value} (h:Box3 W b x y z) (o:Obj):Box3 (W.alloc o) b x y z:=h.keep ((Below.refl W.heap.size W).alloc nl o) h.lt
structure FewI (es:List El):Prop where
 n:es.length≤1048576
 l:∀ s ∈ es,s.ls.length≤1048576
 sum:es.length+elets es≤1048576
theorem FewI.mk' {es:List El} (h:es.length+elets es≤1048576):FewI es:=⟨by omega,fun s hs=>by have:=elets_mem hs;omega,h⟩
theorem eqByteS_any (a b:Option Addr) (ca cb:Nat) (xs ys:List Int) (w:World) (ha:Byt w a xs) (hb:Byt w b ys) (hx:xs.length≤281474976710656) (hy:ys.length≤281474976710656) :
  Calls Tryz.prog 14 #[.slice a xs.length ca,.slice b ys.length cb] w fun e w'=>e=.returned (.bool (decide (xs=ys)))∧∃ n,w'=w.drewN n:=by
 by_cases hl:xs.length=ys.length
 ·generalize hlx:xs.length=n at *
  have HX:Hid (xs.length=n):=hlx
  have HY:Hid (ys.length=n):=hl.symm
  rw [←hl]
  have hnn:((n:Int) != (n:Int))=false:=by simp
  clear hlx hl hy
  go_enter Tryz.func14,Tryz.ntmps14
  go_wp2
  go_loopw [5] (fun i wr=>∃ k m:Nat,k≤n∧i=.int .i64 k∧wr=w.drewN m∧xs.take k=ys.take k) (fun i _=>n-(intOf i).toNat)
  case atStart=>exact ⟨0,0,Nat.zero_le _,rfl,rfl,by simp⟩
  case round=>
   obtain ⟨k,m,hk,rfl,rfl,htk⟩:=hrel
   have HT:Hid (xs.take k=ys.take k):=htk
   clear htk
   by_cases hlt:k<n
   ·obtain ⟨b1,o1,rfl,hb1,hc1⟩:=ha.len_pos k (by rw [HX.out];exact hlt)
    obtain ⟨b2,o2,rfl,hb2,hc2⟩:=hb.len_pos k (by rw [HY.out];exact hlt)
    have hs1:=hc1 k (by rw [HX.out];exact hlt)
    have hs2:=hc2 k (by rw [HY.out];exact hlt)
    have g1:=getD_rng ha.1 k
    have g2:=getD_rng hb.1 k
    clear hc1 hc2 ha hb
    generalize hx1:xs.getD k 0=x1 at *
    generalize hy1:ys.getD k 0=y1 at *
    have HX1:Hid (xs.getD k 0=x1):=hx1
    have HY1:Hid (ys.getD k 0=y1):=hy1
    clear hx1 hy1
    by_cases hxy:x1=y1
    ·subst hxy
     have hq:(x1 != x1)=false:=by simp
     have HT':Hid (xs.take (k+1)=ys.take (k+1)):=take_eq_succ HT.out (by rw [HX.out];exact hlt) (by rw [HY.out];exact hlt) (by rw [HX1.out,HY1.out])
     go_wp2
     go_quiet (fail)
     go_wp2
     go_roundw
     case rel=>exact ⟨k+1,_,by omega,by go_num,rfl,HT'.out⟩
     case measure=>simp [intOf];omega
    ·have hq:(x1 != y1)=true:=by rw [bne_iff_ne];exact hxy
     have HN:Hid (decide (xs=ys)=false):=by
      have:xs≠ys:=ne_of_getD (k:=k) (by rw [HX1.out,HY1.out];exact hxy)
      simpa [Hid] using this
     clear hxy
     go_wp2
     go_quiet (fail)
     go_wp2
     go_ret
     exact ⟨by rw [HN.out];rfl,_,World.drewN_drewN ..⟩
   ·have HE:Hid (decide (xs=ys)=true):=by
     have h1:=HT.out
     rw [List.take_of_length_le (by rw [HX.out];omega),List.take_of_length_le (by rw [HY.out];omega)] at h1
     simpa [Hid] using h1
    go_wp2
    go_ret
    exact ⟨by rw [HE.out];rfl,_,rfl⟩
 ·have hne:decide (xs=ys)=false:=by simp;intro h;exact hl (by rw [h])
  have hl':((xs.length:Int) != (ys.length:Int))=true:=by rw [bne_iff_ne];omega
  rw [hne]
  go_enter Tryz.func14,Tryz.ntmps14
  go_wp2
  go_ret
  exact ⟨rfl,0,rfl⟩
theorem eqByteS_yes (a b:Option Addr) (ca cb:Nat) (xs:List Int) (w:World) (ha:Byt w a xs) (hb:Byt w b xs) (hx:xs.length≤281474976710656) :
  Calls Tryz.prog 14 #[.slice a xs.length ca,.slice b xs.length cb] w fun e w'=>e=.returned (.bool true)∧∃ n,w'=w.drewN n:=by
 refine (eqByteS_any a b ca cb xs xs w ha hb hx hx).mono ?_
 rintro e w' ⟨rfl,h⟩
 exact ⟨by simp,h⟩
theorem below_dI {w W:World} {B:Nat} (h:Below B w W) (n:Nat):Below B w (W.drewN n):=⟨h.os,h.tape,h.output,h.size,h.block⟩
theorem eqItem_yes (a b:Option Addr) (ca cb:Nat) (xs:List Int) (n:Int) (w:World) (ha:Byt w a xs) (hb:Byt w b xs) (hx:xs.length≤281474976710656) :
  Calls Tryz.prog 144 #[.agg #[.int .i64 n,.slice a xs.length ca],.agg #[.int .i64 n,.slice b xs.length cb]] w fun e w'=>e=.returned (.bool true)∧Below w.heap.size w w':=by
 have hw:Below w.heap.size w ((w.alloc (Obj.cells #[.int .i64 n,.slice a xs.length ca] 113)).alloc (Obj.cells #[.int .i64 n,.slice b xs.length cb] 113)):=((Below.refl _ _).alloc nl _).alloc (by simp) _
 have hnn:(n != n)=false:=by simp
 go_enter Tryz.func144,Tryz.ntmps144
 go_wp2_with fail
 refine (eqByteS_yes a b ca cb xs _ (ha.below hw nl) (hb.below hw nl) hx).mono ?_
 rintro e w1 ⟨rfl,nq,rfl⟩
 go_wp2
 go_ret
 exact ⟨rfl,below_dI hw _⟩
theorem eqItemS_yes (a b:Option Addr) (ca cb:Nat) (ss ts:List El) (w:World) (ha:Els true w a ss) (hb:Els true w b ts) (hct:ss.map El.ct=ts.map El.ct) (hx:ss.length≤281474976710656) (hxl:∀ s ∈ ss,s.ls.length≤281474976710656) :
  Calls Tryz.prog 100 #[.slice a ss.length ca,.slice b ss.length cb] w fun e w'=>e=.returned (.bool true)∧Below w.heap.size w w':=by
 have htl:ts.length=ss.length:=by have:=congrArg List.length hct;simpa using this.symm
 have HA:Hid (Els true w a ss):=ha
 have HB:Hid (Els true w b ts):=hb
 have HCT:Hid (ss.map El.ct=ts.map El.ct∧ts.length=ss.length):=⟨hct,htl⟩
 have HXL:Hid (∀ s ∈ ss,s.ls.length≤281474976710656):=hxl
 clear ha hb hct htl hxl
 generalize hlen:ss.length=n at *
 have HL:Hid (ss.length=n∧True):=⟨hlen,trivial⟩
 clear hlen
 have hnn:((n:Int) != (n:Int))=false:=by simp
 go_enter Tryz.func100,Tryz.ntmps100
 go_wp2
 go_loopw [5] (fun i wr=>∃ k:Nat,k≤n∧i=.int .i64 k∧Below w.heap.size w wr) (fun i _=>n-(intOf i).toNat)
 case atStart=>exact ⟨0,Nat.zero_le _,rfl,Below.refl _ _⟩
 case round=>
  obtain ⟨k,hk,rfl,hbel⟩:=hrel
  by_cases hlt:k<n
  ·obtain ⟨b1,o1,rfl,hb1,c0,c1,hy1,-⟩:=(HA.out.below hbel nl).pen k (by rw [HL.out.1];exact hlt)
   obtain ⟨b2,o2,rfl,hb2,d0,d1,hy2,-⟩:=(HB.out.below hbel nl).pen k (by rw [HCT.out.2];exact hlt)
   have hml:=HXL.out _ (getD_memE (k:=k) (by rw [HL.out.1];exact hlt))
   have hce:=ctE_get HCT.out.1 k
   generalize ss.getD k de=s at *
   generalize ts.getD k de=t at *
   obtain ⟨sn,sa,sc,sl⟩:=s
   obtain ⟨tn,ta,tc,tl⟩:=t
   simp only [El.ct,Prod.mk.injEq] at hce
   obtain ⟨rfl,rfl⟩:=hce
   simp only at c0 c1 d0 d1 hy1 hy2 hml
   have HY1:Hid (Byt wr sa sl):=hy1
   have HY2:Hid (Byt wr ta sl):=hy2
   have HML:Hid (sl.length≤281474976710656):=hml
   have HC:Hid (wr.cell? ⟨b1,o1+k*2,none⟩=some (.int .i64 sn)∧wr.cell? ⟨b1,o1+k*2+1,none⟩=some (.slice sa sl.length sc)∧wr.cell? ⟨b2,o2+k*2,none⟩=some (.int .i64 sn)∧wr.cell? ⟨b2,o2+k*2+1,none⟩=some (.slice ta sl.length tc)):=⟨c0,c1,d0,d1⟩
   clear hy1 hy2 hml c0 c1 d0 d1
   go_wp2_with fail
   go_region_held3 (fun W=>W.cell? ⟨b1,o1+k*2,none⟩=some (.int .i64 sn)∧W.cell? ⟨b1,o1+k*2+1,none⟩=some (.slice sa sl.length sc)∧W.cell? ⟨b2,o2+k*2,none⟩=some (.int .i64 sn)∧W.cell? ⟨b2,o2+k*2+1,none⟩=some (.slice ta sl.length tc))
    (first | exact HC.out | exact HC8.out)
    (first
     | (go_at_call 144;refine (eqItem_yes sa ta sc tc sl sn _ (by exact HY1.out) (by exact HY2.out) HML.out).mono ?_;rintro e w8 ⟨rfl,hb8'⟩;have HB8:Hid (Below w.heap.size w w8):=hbel.trans ((Below.drewS hb8').mono hbel.size);have HC8:Hid (w8.cell? ⟨b1,o1+k*2,none⟩=some (.int .i64 sn)∧w8.cell? ⟨b1,o1+k*2+1,none⟩=some (.slice sa sl.length sc)∧w8.cell? ⟨b2,o2+k*2,none⟩=some (.int .i64 sn)∧w8.cell? ⟨b2,o2+k*2+1,none⟩=some (.slice ta sl.length tc)):=⟨keep (Below.drewS hb8') hb1 HC.out.1,keep (Below.drewS hb8') hb1 HC.out.2.1,keep (Below.drewS hb8') hb2 HC.out.2.2.1,keep (Below.drewS hb8') hb2 HC.out.2.2.2⟩;clear hb8'))
   clear HC HC8
   go_wp2
   go_roundw
   case rel=>exact ⟨k+1,by omega,by go_num,HB8.out⟩
   case measure=>simp [intOf];omega
  ·have hkn:k=n:=by omega
   subst hkn
   go_wp2
   go_ret
   exact ⟨rfl,hbel⟩
theorem eqPack_yes (E O:Int) (a b:Option Addr) (ca cb:Nat) (ss ts:List El) (w:World) (ha:Els true w a ss) (hb:Els true w b ts) (hct:ss.map El.ct=ts.map El.ct) (hx:FewI ss) :
  Calls Tryz.prog 57 #[.agg #[.int .i64 E,.int .i64 O,.slice a ss.length ca],.agg #[.int .i64 E,.int .i64 O,.slice b ss.length cb]] w fun e w'=>e=.returned (.bool true)∧Below w.heap.size w w':=by
 have hw:Below w.heap.size w ((w.alloc (Obj.cells #[.int .i64 E,.int .i64 O,.slice a ss.length ca] 47)).alloc (Obj.cells #[.int .i64 E,.int .i64 O,.slice b ss.length cb] 47)):=((Below.refl _ _).alloc nl _).alloc (by simp) _
 have HE:=eqItemS_yes a b ca cb ss ts _ (ha.below hw nl) (hb.below hw nl) hct (by have:=hx.n;omega) (fun s hs=>by have:=hx.l s hs;omega)
 have hE:(E != E)=false:=by simp
 have hO:(O != O)=false:=by simp
 clear ha hb hct hx
 go_enter Tryz.func57,Tryz.ntmps57
 go_wp2_with fail
 refine HE.mono ?_
 clear HE
 rintro e w1 ⟨rfl,hb1⟩
 have HB1:Hid (Below w.heap.size w w1):=hw.trans (hb1.mono (by simp;omega))
 clear hw hb1
 go_wp2
 go_ret
 exact ⟨rfl,HB1.out⟩
def Ins (w:World) (a:Option Addr) (zs:List Int):Prop:=
 (∀ z ∈ zs,-9223372036854775808≤z∧z≤9223372036854775807)∧(0<zs.length→∃ b off,a=some ⟨b,off,none⟩∧b<w.heap.size∧∀ i,i<zs.length→w.cell? ⟨b,off+i,none⟩=some (.int .i64 (zs.getD i 0)))
def OwI (w:World) (B g cap:Nat) (zs:List Int):Prop:=
 w.ownsRow B 3 1 (.slice (some ⟨g,0,none⟩) zs.length cap) zs.length (zs.map (Value.int .i64))∧∀ z ∈ zs,-9223372036854775808≤z∧z≤9223372036854775807
theorem OwI.lt {w:World} {B g cap:Nat} {zs:List Int} (h:OwI w B g cap zs):B≤g∧g<w.heap.size:=h.1.lt g rfl
theorem OwI.cell {w:World} {B g cap:Nat} {zs:List Int} (h:OwI w B g cap zs) (i:Nat) (hi:i<zs.length):w.cell? ⟨g,i,none⟩=some (.int .i64 (zs.getD i 0)):=by
 rw [h.1.cellAt i (by omega)]
 simp [List.getElem?_eq_getElem hi]
theorem OwI.byt {w:World} {B g cap:Nat} {zs:List Int} (h:OwI w B g cap zs):Ins w (some ⟨g,0,none⟩) zs:=
 ⟨h.2,fun _=>⟨g,0,rfl,h.lt.2,fun i hi=>by rw [Nat.zero_add];exact h.cell i hi⟩⟩
theorem Ins.below {w w':World} {a:Option Addr} {zs:List Int} {B:Nat} (h:Ins w a zs) (hb:Below B w w') (hB:w.heap.size≤B):Ins w' a zs:=by
 refine ⟨h.1,fun hz=>?_⟩
 obtain ⟨b,off,rfl,hlt,hc⟩:=h.2 hz
 refine ⟨b,off,rfl,Nat.lt_of_lt_of_le hlt hb.size,fun i hi=>?_⟩
 rw [hb.cell (p:=⟨b,off+i,none⟩) (Nat.lt_of_lt_of_le hlt hB)]
 exact hc i hi
theorem OwI.below {w w':World} {B B' g cap:Nat} {zs:List Int} (h:OwI w B g cap zs) (hb:Below B' w w') (hB:w.heap.size≤B'):OwI w' B g cap zs:=by
 refine ⟨⟨h.1.1,?_⟩,h.2⟩
 rcases h.1.2 with ⟨h',_⟩ | ⟨g',cap',cur,h',hg,hh,r⟩
 ·simp at h'
 ·refine .inr ⟨g',cap',cur,h',hg,?_,r⟩
  rw [hb.block g' (by have:=(Array.getElem?_eq_some_iff.1 hh).1;omega)]
  exact hh
theorem OwI.mono {w:World} {B B' g cap:Nat} {zs:List Int} (h:OwI w B g cap zs) (hB:B'≤B):OwI w B' g cap zs:=by
 refine ⟨⟨h.1.1,?_⟩,h.2⟩
 rcases h.1.2 with ⟨h',_⟩ | ⟨g',cap',cur,h',hg,r⟩
 ·simp at h'
 ·exact .inr ⟨g',cap',cur,h',by omega,r⟩
theorem Ins.len_pos {w:World} {a:Option Addr} {zs:List Int} (h:Ins w a zs) (i:Nat) (hi:i<zs.length):∃ b off,a=some ⟨b,off,none⟩∧b<w.heap.size∧∀ i,i<zs.length→w.cell? ⟨b,off+i,none⟩=some (.int .i64 (zs.getD i 0)):=h.2 (by omega)
theorem getD_rngI {zs:List Int} (h:∀ z ∈ zs,-9223372036854775808≤z∧z≤9223372036854775807) (i:Nat):-9223372036854775808≤zs.getD i 0∧zs.getD i 0≤9223372036854775807:=by
 rw [List.getD_eq_getElem?_getD]
 by_cases hi:i<zs.length
 ·rw [List.getElem?_eq_getElem hi];exact h _ (List.getElem_mem hi)
 ·rw [List.getElem?_eq_none (by omega)];simp
theorem OwI.store {w:World} {B g cap:Nat} {zs:List Int} (h:OwI w B g cap zs) (i:Nat) (z:Int) (hz:-9223372036854775808≤z∧z≤9223372036854775807):OwI (w.setCell ⟨g,i,none⟩ (.int .i64 z)) B g cap (zs.set i z):=by
 have:=(h.1.stored i (.int .i64 z)).1
 refine ⟨?_,?_⟩
 ·simpa [List.map_set] using this
 ·intro y hy
  rcases List.mem_or_eq_of_mem_set hy with hy | rfl
  ·exact h.2 y hy
  ·exact hz
theorem OwI.frozen {w:World} {B g cap:Nat} {zs:List Int} (h:OwI w B g cap zs) (i:Nat):w.frozen? ⟨g,i,none⟩=false:=h.1.frozenAt i
theorem OwI.drewN {w:World} {B g cap:Nat} {zs:List Int} (h:OwI w B g cap zs) (n:Nat):OwI (w.drewN n) B g cap zs:=h
theorem OwI.alloc {w:World} {B g cap:Nat} {zs:List Int} (h:OwI w B g cap zs) (ob:Obj):OwI (w.alloc ob) B g cap zs:=h.below ((Below.refl w.heap.size w).alloc nl ob) nl
theorem Tryz.infoI64 :(Tryz.prog.info? 3).map (fun i=>(i.zero,i.size,i.bytes))=some (some (.int .i64 0),1,8):=by kernel_rfl
theorem made_zeroI (n:Nat):(madeCells (Value.int .i64 0).cells (n*1)).toList=(List.replicate n (0:Int)).map (Value.int .i64):=by
 simp only [madeCells,Value.cells,Nat.mul_one,Array.toList_map,Array.toList_range,List.map_replicate]
 rw [List.eq_replicate_iff]
 refine ⟨by simp,fun b hb=>?_⟩
 simp only [List.mem_map] at hb
 obtain ⟨x,_,rfl⟩:=hb
 simp [Nat.mod_one]
theorem OwI.only {S:Nat→Prop} {w w':World} {B g cap:Nat} {zs:List Int} (h:OwI w B g cap zs) (ho:Only S w w') (hs:¬S g):OwI w' B g cap zs:=by
 refine ⟨⟨h.1.1,?_⟩,h.2⟩
 have hlt:=h.lt.2
 rcases h.1.2 with ⟨h',_⟩ | ⟨g',cap',cur,h',hg,hh,r⟩
 ·simp at h'
 ·have e:g'=g:=by simp at h';exact h'.1.symm
  subst e
  exact .inr ⟨g',cap',cur,h',hg,by rw [ho.block g' hlt hs];exact hh,r⟩
def MinI (w:World) (B U:Nat) (a:Option Addr) (cap:Nat) (zs:List Int):Prop:=
 (a=none∧zs=[]∧cap=0)∨∃ g,a=some ⟨g,0,none⟩∧B≤g∧g<U∧OwI w B g cap zs
theorem MinI.byt {w:World} {B U:Nat} {a:Option Addr} {cap:Nat} {zs:List Int} (h:MinI w B U a cap zs):Ins w a zs:=by
 rcases h with ⟨rfl,rfl,rfl⟩ | ⟨g,rfl,_,_,h⟩
 ·exact ⟨by simp,by simp⟩
 ·exact h.byt
theorem MinI.only {S:Nat→Prop} {w w':World} {B U:Nat} {a:Option Addr} {cap:Nat} {zs:List Int} (h:MinI w B U a cap zs) (ho:Only S w w') (hs:∀ k,B≤k→k<U→¬S k):MinI w' B U a cap zs:=by
 rcases h with h | ⟨g,rfl,h1,h2,h⟩
 ·exact .inl h
 ·exact .inr ⟨g,rfl,h1,h2,h.only ho (hs g h1 h2)⟩
theorem MinI.below {w w':World} {B U:Nat} {a:Option Addr} {cap:Nat} {zs:List Int} (h:MinI w B U a cap zs) (ho:Below w.heap.size w w'):MinI w' B U a cap zs:=h.only (Only.ofBelow (S:=fun _=>False) ho nl) (by simp)
theorem MinI.mono {w:World} {B U B' U':Nat} {a:Option Addr} {cap:Nat} {zs:List Int} (h:MinI w B U a cap zs) (h1:B'≤B) (h2:U≤U'):MinI w B' U' a cap zs:=by
 rcases h with h | ⟨g,rfl,g1,g2,h⟩
 ·exact .inl h
 ·exact .inr ⟨g,rfl,by omega,by omega,h.mono h1⟩
theorem OwI.mine {w:World} {B g cap:Nat} {zs:List Int} (h:OwI w B g cap zs):MinI w B w.heap.size (some ⟨g,0,none⟩) cap zs:=.inr ⟨g,rfl,h.lt.1,h.lt.2,h⟩
def Stab (lo hi:Nat) (P:World→Prop):Prop:=∀ (T:Nat→Prop) (W W':World),P W→Only T W W'→(∀ k,lo≤k→k<hi→¬T k)→hi≤W.heap.size→P W'
theorem Stab.true (lo hi:Nat):Stab lo hi (fun _=>True):=fun _ _ _ _ _ _ _=>trivial
theorem Stab.and {lo hi:Nat} {P Q:World→Prop} (h:Stab lo hi P) (k:Stab lo hi Q):Stab lo hi (fun W=>P W∧Q W):=fun T W W' hp ho ht hl=>⟨h T W W' hp.1 ho ht hl,k T W W' hp.2 ho ht hl⟩
theorem Stab.minI {lo hi B U:Nat} {a:Option Addr} {c:Nat} {zs:List Int} (h1:lo≤B) (h2:U≤hi):Stab lo hi (fun W=>MinI W B U a c zs):=fun T W W' hp ho ht hl=>hp.only ho (fun k hk1 hk2=>ht k (by omega) (by omega))
theorem Stab.mine {lo hi B U:Nat} {a:Option Addr} {c:Nat} {zs:List Int} (h1:lo≤B) (h2:U≤hi):Stab lo hi (fun W=>Mine W B U a c zs):=fun T W W' hp ho ht hl=>hp.only ho (fun k hk1 hk2=>ht k (by omega) (by omega))
theorem Stab.mono {lo hi lo' hi':Nat} {P:World→Prop} (h:Stab lo hi P) (h1:lo'≤lo) (h2:hi≤hi'):Stab lo' hi' P:=fun T W W' hp ho ht hl=>h T W W' hp ho (fun k h3 h4=>ht k (by omega) (by omega)) (by omega)
theorem Stab.below {lo hi:Nat} {P:World→Prop} (h:Stab lo hi P) {W W':World} (hp:P W) (hb:Below W.heap.size W W') (hl:hi≤W.heap.size):P W':=h _ _ _ hp (Only.ofBelow (S:=fun _=>False) hb nl) (by simp) hl
set_option linter.unusedSimpArgs false
structure CopV (W:World) (B X:Nat) (v:Value) (ts ss:List El):Prop where
 cop:CopT W B v ts ss
 r:∀ k,v.ownBlock=some k→k<X
 d:∀ e ∈ ts,∀ k,rowOf e.a k→k<X
theorem CopV.stab {lo hi B X:Nat} {v:Value} {ts ss:List El} (h1:lo≤B) (h2:X≤hi):Stab lo hi (fun W=>CopV W B X v ts ss):=fun T W W' hp ho ht hl=>
 ⟨⟨hp.cop.ct,hp.cop.row.stay ho (fun k hk=>ht k (by have:=(hp.cop.row.blk hk).1;omega) (by have:=hp.r k hk;omega)),hp.cop.deep.stay ho (fun e he k hk=>ht k (by have:=((hp.cop.deep.mine e he).rowE hk).1;omega) (by have:=hp.d e he k hk;omega)),hp.cop.rng⟩,hp.r,hp.d⟩
theorem CopT.v {W:World} {B:Nat} {v:Value} {ts ss:List El} (h:CopT W B v ts ss):CopV W B W.heap.size v ts ss:=⟨h,fun k hk=>(h.row.blk hk).2,fun e he k hk=>((h.deep.mine e he).rowE hk).2⟩
def Ce3 (W:World) (b:Nat) (x y z:Value):Prop:=W.cell? ⟨b,0,none⟩=some x∧W.cell? ⟨b,1,none⟩=some y∧W.cell? ⟨b,2,none⟩=some z
def Ce2 (W:World) (b:Nat) (x y:Value):Prop:=W.cell? ⟨b,0,none⟩=some x∧W.cell? ⟨b,1,none⟩=some y
def eT (p:Bool):TypeId:=cond p 141 36
structure OVr (p:Bool) (w:World) (B:Nat) (v:Value) (es:List El):Prop where
 own:w.ownsRow B (eT p) (eW p) v es.length (es.flatMap (El.cells p))
section
variable {p : Bool} {w w' : World} {B : Nat} {v : Value} {es : List El}
theorem OVr.nil (p:Bool) (w:World) (B:Nat):OVr p w B (.slice none 0 0) []:=⟨⟨by simp,.inl ⟨rfl,rfl⟩⟩⟩
theorem OVr.form (h:OVr p w B v es):∃ (a:Option Addr) (c:Nat),v=.slice a es.length c:=by
 rcases h.own.2 with ⟨rfl,h0⟩ | ⟨g,cap,cur,rfl,_⟩
 ·exact ⟨none,0,by rw [h0]⟩
 ·exact ⟨_,_,rfl⟩
theorem OVr.blk (h:OVr p w B v es) {k:Nat} (hk:v.ownBlock=some k):B≤k∧k<w.heap.size:=by
 rcases h.own.2 with ⟨rfl,h0⟩ | ⟨g,cap,cur,rfl,hg,hh,_⟩
 ·simp [Value.ownBlock] at hk
 ·simp [Value.ownBlock] at hk
  subst hk
  exact ⟨hg,(Array.getElem?_eq_some_iff.1 hh).1⟩
theorem OVr.stay {S:Nat→Prop} (h:OVr p w B v es) (ho:Only S w w') (hs:∀ k,v.ownBlock=some k→¬S k):OVr p w' B v es:=by
 refine ⟨⟨h.own.1,?_⟩⟩
 rcases h.own.2 with h' | ⟨g,cap,cur,rfl,hg,hh,r⟩
 ·exact .inl h'
 ·exact .inr ⟨g,cap,cur,rfl,hg,(ho.block g (Array.getElem?_eq_some_iff.1 hh).1 (hs g rfl)).trans hh,r⟩
theorem OVr.below (h:OVr p w B v es) (hb:Below w.heap.size w w'):OVr p w' B v es:=h.stay (Only.ofBelow (S:=fun _=>False) hb nl) (by simp)
theorem OVr.weak {B':Nat} (h:OVr p w B v es) (hB:B'≤B):OVr p w B' v es:=by
 refine ⟨⟨h.own.1,?_⟩⟩
 rcases h.own.2 with h' | ⟨g,cap,cur,h',hg,r⟩
 ·exact .inl h'
 ·exact .inr ⟨g,cap,cur,h',by omega,r⟩
theorem OVr.cell (h:OVr p w B v es) (k:Nat) (hk:k<es.length):∃ g cap,v=.slice (some ⟨g,0,none⟩) es.length cap∧B≤g∧g<w.heap.size∧(∀ i,w.frozen? ⟨g,i,none⟩=false)∧∀ i,i<es.length→LieE p w g (i*eW p) (es.getD i de):=by
 rcases h.own.2 with ⟨_,h0⟩ | ⟨g,cap,cur,rfl,hg,hh,r⟩
 ·omega
 ·refine ⟨g,cap,rfl,hg,(Array.getElem?_eq_some_iff.1 hh).1,fun i=>h.own.frozenAt i,fun i hi=>?_⟩
  have hp:i*eW p+eW p≤es.length*eW p:=by rw [show i*eW p+eW p=(i+1)*eW p from by rw [Nat.add_mul,Nat.one_mul]];exact Nat.mul_le_mul_right _ hi
  refine ⟨fun hp1=>?_,?_⟩
  ·have e0:=eflat_get p es i hi 0 (by cases p <;> simp [eW])
   rw [Nat.add_zero] at e0
   rw [h.own.cellAt (i*eW p) (by cases p <;> simp [eW] at hp ⊢ <;> omega),e0,hp1]
   rfl
  ·rw [h.own.cellAt (i*eW p+eO p) (by cases p <;> simp [eW,eO] at hp ⊢ <;> omega),eflat_get p es i hi (eO p) (by cases p <;> simp [eW,eO])]
   cases p <;> rfl
theorem OVr.els {a:Option Addr} {n c:Nat} (h:OVr p w B (.slice a n c) es) (hr:∀ e ∈ es,rE p e∧Byt w e.a e.ls):Els p w a es:=by
 refine ⟨hr,fun hz=>?_⟩
 obtain ⟨g,cap,e,h1,h2,_,h4⟩:=h.cell 0 hz
 simp at e
 obtain ⟨rfl,rfl,rfl⟩:=e
 exact ⟨g,0,rfl,h2,fun i hi=>by rw [Nat.zero_add];exact h4 i hi⟩
theorem OVr.store (h:OVr p w B v es) (k:Nat) (hk:k<es.length) (e:El) (j:Nat) (hj:j<eW p) (u:Value) (he:((es.getD k de).cells p).set j u=e.cells p) {g:Nat} (hg:v.ownBlock=some g):OVr p (w.setCell ⟨g,k*eW p+j,none⟩ u) B v (es.set k e):=by
 obtain ⟨a,c,rfl⟩:=h.form
 have hv:∃ g',a=some ⟨g',0,none⟩:=by
  obtain ⟨g',cap,e,_⟩:=h.cell k hk
  simp at e
  exact ⟨g',e.1⟩
 obtain ⟨g',rfl⟩:=hv
 obtain rfl:g'=g:=by simpa [Value.ownBlock] using hg
 have r:=(h.own.stored (k*eW p+j) u).1
 rw [eflat_set p es e j hj u k hk he] at r
 exact ⟨by rw [List.length_set];exact r⟩
theorem OVr.other (h:OVr p w B v es) {a:Option Addr} {B' U c:Nat} {zs:List Int} (hm:Mine w B' U a c zs) {g:Nat} (hg:v.ownBlock=some g):¬rowOf a g:=by
 rintro ⟨x,hx,hxg⟩
 rcases hm with ⟨h',_⟩ | ⟨g',h',g1,g2,ho⟩
 ·rw [h'] at hx;cases hx
 ·rw [h'] at hx
  simp at hx
  rw [←hx] at hxg
  simp at hxg
  subst hxg
  rcases ho.1.2 with ⟨e,_⟩ | ⟨k,cap1,cur1,e,_,hh,_⟩
  ·simp at e
  ·obtain rfl:g'=k:=by simp at e;exact e.1
   rcases h.own.2 with ⟨e2,_⟩ | ⟨k2,cap2,cur2,e2,_,hh2,_⟩
   ·subst e2;simp [Value.ownBlock] at hg
   ·subst e2
    obtain rfl:k2=g':=by simpa [Value.ownBlock] using hg
    rw [hh] at hh2
    cases p <;> simp [eT] at hh2
theorem OVr.two {v2:Value} {es2:List El} {B2:Nat} (h:OVr false w B v es) (h2:OVr true w B2 v2 es2) {g:Nat} (hg:v.ownBlock=some g):¬v2.ownBlock=some g:=by
 intro hg2
 rcases h.own.2 with ⟨e2,_⟩ | ⟨k,cap1,cur1,e1,_,hh,_⟩
 ·subst e2;simp [Value.ownBlock] at hg
 ·subst e1
  obtain rfl:k=g:=by simpa [Value.ownBlock] using hg
  rcases h2.own.2 with ⟨e2,_⟩ | ⟨k2,cap2,cur2,e2,_,hh2,_⟩
  ·subst e2;simp [Value.ownBlock] at hg2
  ·subst e2
   obtain rfl:k2=k:=by simpa [Value.ownBlock] using hg2
   rw [hh] at hh2
   simp [eT] at hh2
end
structure Box2 (W:World) (b:Nat) (x y:Value):Prop where
 c0:W.cell? ⟨b,0,none⟩=some x
 c1:W.cell? ⟨b,1,none⟩=some y
 f0:W.frozen? ⟨b,0,none⟩=false
 f1:W.frozen? ⟨b,1,none⟩=false
 lt:b<W.heap.size
theorem Box2.new (w:World) (x y:Value) (T:TypeId):Box2 (w.alloc (Obj.cells #[x,y] T)) w.heap.size x y:=⟨by simp,by simp,by simp,by simp,by simp⟩
theorem Box2.keep {W W':World} {b B:Nat} {x y:Value} (h:Box2 W b x y) (hb:Below B W W') (hB:b<B):Box2 W' b x y:=
 ⟨kp hb hB h.c0,kp hb hB h.c1,(hb.frozen (p:=⟨b,0,none⟩) hB).trans h.f0,(hb.frozen (p:=⟨b,1,none⟩) hB).trans h.f1,Nat.lt_of_lt_of_le h.lt hb.size⟩
theorem Box2.alloc {W:World} {b:Nat} {x y:Value} (h:Box2 W b x y) (o:Obj):Box2 (W.alloc o) b x y:=h.keep ((Below.refl W.heap.size W).alloc nl o) h.lt
theorem frozO {S:Nat→Prop} {w w':World} (h:Only S w w') {b o:Nat} (hb:b<w.heap.size) (hs:¬S b):w'.frozen? ⟨b,o,none⟩=w.frozen? ⟨b,o,none⟩:=by
 simp only [World.frozen?,h.block b hb hs]
theorem Box2.only {S:Nat→Prop} {W W':World} {b:Nat} {x y:Value} (h:Box2 W b x y) (ho:Only S W W') (hs:¬S b):Box2 W' b x y:=
 ⟨ho.cell h.lt hs h.c0,ho.cell h.lt hs h.c1,(frozO ho h.lt hs).trans h.f0,(frozO ho h.lt hs).trans h.f1,Nat.lt_of_lt_of_le h.lt ho.size⟩
theorem Box2.other {W:World} {b:Nat} {x y:Value} (h:Box2 W b x y) {p:Addr} (hp:p.block≠b) (u:Value):Box2 (W.setCell p u) b x y:=
 h.only (S:=fun k=>k=p.block) ((Only.refl (fun k=>k=p.block) W).setCell (.inl rfl) u) (fun e=>hp e.symm)
theorem Box2.set0 {W:World} {b:Nat} {x y:Value} (h:Box2 W b x y) (u:Value):Box2 (W.setCell ⟨b,0,none⟩ u) b u y:=by
 obtain ⟨h0,h1,h2,h3,h4⟩:=h
 exact ⟨World.cell?_setCell_same W _ _ h0,(World.cell?_setCell_other W _ _ _ (by simp)).trans h1,by simp [h2],by simp [h3],by simpa using h4⟩
theorem Box2.set1 {W:World} {b:Nat} {x y:Value} (h:Box2 W b x y) (u:Value):Box2 (W.setCell ⟨b,1,none⟩ u) b x u:=by
 obtain ⟨h0,h1,h2,h3,h4⟩:=h
 exact ⟨(World.cell?_setCell_other W _ _ _ (by simp)).trans h0,World.cell?_setCell_same W _ _ h1,by simp [h2],by simp [h3],by simpa using h4⟩
end Go.Proofs.YtaibkchbkedjnaaGreatDoor
