/- Lemmas on the way. -/
import Derived.Test.YtaibkchbkedjnaaGreatDoorIParts
set_option maxRecDepth 20000
set_option maxHeartbeats 16000000
namespace Go.Proofs.YtaibkchbkedjnaaGreatDoor
open Go.RowKit
set_option linter.unusedVariables false
theorem Tryz.infoI64 :(Tryz.prog.info? 3).map (fun i=>(i.zero,i.size,i.bytes))=some (some (.int .i64 0),1,8):=by kernel_rfl
theorem made_zeroI (n:Nat):(madeCells (Value.int .i64 0).cells (n*1)).toList=(List.replicate n (0:Int)).map (Value.int .i64):=by
 simp only [madeCells,Value.cells,Nat.mul_one,Array.toList_map,Array.toList_range,List.map_replicate]
 rw [List.eq_replicate_iff]
 refine ⟨by simp,fun b hb=>?_⟩
 simp only [List.mem_map] at hb
 obtain ⟨x,_,rfl⟩:=hb
 simp [Nat.mod_one]
theorem OwI.only {S:Nat→Prop} {w w':World} {B g cap:Nat} {zs:List Int} (h:OwI w B g cap zs) (ho:Only S w w') (hs:¬S g):OwI w' B g cap zs:=by
 refine ⟨⟨h.1.1,?_⟩,h.2⟩
 have hlt:=h.lt.2
 rcases h.1.2 with ⟨h',_⟩ | ⟨g',cap',cur,h',hg,hh,r⟩
 ·simp at h'
 ·have e:g'=g:=by simp at h';exact h'.1.symm
  subst e
  exact .inr ⟨g',cap',cur,h',hg,by rw [ho.block g' hlt hs];exact hh,r⟩
def MinI (w:World) (B U:Nat) (a:Option Addr) (cap:Nat) (zs:List Int):Prop:=
 (a=none∧zs=[]∧cap=0)∨∃ g,a=some ⟨g,0,none⟩∧B≤g∧g<U∧OwI w B g cap zs
theorem MinI.byt {w:World} {B U:Nat} {a:Option Addr} {cap:Nat} {zs:List Int} (h:MinI w B U a cap zs):Ins w a zs:=by
 rcases h with ⟨rfl,rfl,rfl⟩ | ⟨g,rfl,_,_,h⟩
 ·exact ⟨by simp,by simp⟩
 ·exact h.byt
theorem MinI.only {S:Nat→Prop} {w w':World} {B U:Nat} {a:Option Addr} {cap:Nat} {zs:List Int} (h:MinI w B U a cap zs) (ho:Only S w w') (hs:∀ k,B≤k→k<U→¬S k):MinI w' B U a cap zs:=by
 rcases h with h | ⟨g,rfl,h1,h2,h⟩
 ·exact .inl h
 ·exact .inr ⟨g,rfl,h1,h2,h.only ho (hs g h1 h2)⟩
theorem MinI.below {w w':World} {B U:Nat} {a:Option Addr} {cap:Nat} {zs:List Int} (h:MinI w B U a cap zs) (ho:Below w.heap.size w w'):MinI w' B U a cap zs:=h.only (Only.ofBelow (S:=fun _=>False) ho nl) (by simp)
theorem MinI.mono {w:World} {B U B' U':Nat} {a:Option Addr} {cap:Nat} {zs:List Int} (h:MinI w B U a cap zs) (h1:B'≤B) (h2:U≤U'):MinI w B' U' a cap zs:=by
 rcases h with h | ⟨g,rfl,g1,g2,h⟩
 ·exact .inl h
 ·exact .inr ⟨g,rfl,by omega,by omega,h.mono h1⟩
theorem OwI.mine {w:World} {B g cap:Nat} {zs:List Int} (h:OwI w B g cap zs):MinI w B w.heap.size (some ⟨g,0,none⟩) cap zs:=.inr ⟨g,rfl,h.lt.1,h.lt.2,h⟩
def Stab (lo hi:Nat) (P:World→Prop):Prop:=∀ (T:Nat→Prop) (W W':World),P W→Only T W W'→(∀ k,lo≤k→k<hi→¬T k)→hi≤W.heap.size→P W'
theorem Stab.true (lo hi:Nat):Stab lo hi (fun _=>True):=fun _ _ _ _ _ _ _=>trivial
theorem Stab.and {lo hi:Nat} {P Q:World→Prop} (h:Stab lo hi P) (k:Stab lo hi Q):Stab lo hi (fun W=>P W∧Q W):=fun T W W' hp ho ht hl=>⟨h T W W' hp.1 ho ht hl,k T W W' hp.2 ho ht hl⟩
theorem Stab.minI {lo hi B U:Nat} {a:Option Addr} {c:Nat} {zs:List Int} (h1:lo≤B) (h2:U≤hi):Stab lo hi (fun W=>MinI W B U a c zs):=fun T W W' hp ho ht hl=>hp.only ho (fun k hk1 hk2=>ht k (by omega) (by omega))
theorem Stab.mono {lo hi lo' hi':Nat} {P:World→Prop} (h:Stab lo hi P) (h1:lo'≤lo) (h2:hi≤hi'):Stab lo' hi' P:=fun T W W' hp ho ht hl=>h T W W' hp ho (fun k h3 h4=>ht k (by omega) (by omega)) (by omega)
theorem Stab.below {lo hi:Nat} {P:World→Prop} (h:Stab lo hi P) {W W':World} (hp:P W) (hb:Below W.heap.size W W') (hl:hi≤W.heap.size):P W':=h _ _ _ hp (Only.ofBelow (S:=fun _=>False) hb nl) (by simp) hl
set_option linter.unusedSimpArgs false
structure CopV (W:World) (B X:Nat) (v:Value) (ts ss:List El):Prop where
 cop:CopT W B v ts ss
 r:∀ k,v.ownBlock=some k→k<X
 d:∀ e ∈ ts,∀ k,rowOf e.a k→k<X
theorem CopV.stab {lo hi B X:Nat} {v:Value} {ts ss:List El} (h1:lo≤B) (h2:X≤hi):Stab lo hi (fun W=>CopV W B X v ts ss):=fun T W W' hp ho ht hl=>
 ⟨⟨hp.cop.ct,hp.cop.row.stay ho (fun k hk=>ht k (by have:=(hp.cop.row.blk hk).1;omega) (by have:=hp.r k hk;omega)),hp.cop.deep.stay ho (fun e he k hk=>ht k (by have:=((hp.cop.deep.mine e he).rowE hk).1;omega) (by have:=hp.d e he k hk;omega)),hp.cop.rng⟩,hp.r,hp.d⟩
theorem CopT.v {W:World} {B:Nat} {v:Value} {ts ss:List El} (h:CopT W B v ts ss):CopV W B W.heap.size v ts ss:=⟨h,fun k hk=>(h.row.blk hk).2,fun e he k hk=>((h.deep.mine e he).rowE hk).2⟩
def Ce3 (W:World) (b:Nat) (x y z:Value):Prop:=W.cell? ⟨b,0,none⟩=some x∧W.cell? ⟨b,1,none⟩=some y∧W.cell? ⟨b,2,none⟩=some z
def Ce2 (W:World) (b:Nat) (x y:Value):Prop:=W.cell? ⟨b,0,none⟩=some x∧W.cell? ⟨b,1,none⟩=some y
def eT (p:Bool):TypeId:=cond p 141 36
structure OVr (p:Bool) (w:World) (B:Nat) (v:Value) (es:List El):Prop where
 own:w.ownsRow B (eT p) (eW p) v es.length (es.flatMap (El.cells p))
section
variable {p : Bool} {w w' : World} {B : Nat} {v : Value} {es : List El}
theorem OVr.form (h:OVr p w B v es):∃ (a:Option Addr) (c:Nat),v=.slice a es.length c:=by
 rcases h.own.2 with ⟨rfl,h0⟩ | ⟨g,cap,cur,rfl,_⟩
 ·exact ⟨none,0,by rw [h0]⟩
 ·exact ⟨_,_,rfl⟩
theorem OVr.blk (h:OVr p w B v es) {k:Nat} (hk:v.ownBlock=some k):B≤k∧k<w.heap.size:=by
 rcases h.own.2 with ⟨rfl,h0⟩ | ⟨g,cap,cur,rfl,hg,hh,_⟩
 ·simp [Value.ownBlock] at hk
 ·simp [Value.ownBlock] at hk
  subst hk
  exact ⟨hg,(Array.getElem?_eq_some_iff.1 hh).1⟩
theorem OVr.stay {S:Nat→Prop} (h:OVr p w B v es) (ho:Only S w w') (hs:∀ k,v.ownBlock=some k→¬S k):OVr p w' B v es:=by
 refine ⟨⟨h.own.1,?_⟩⟩
 rcases h.own.2 with h' | ⟨g,cap,cur,rfl,hg,hh,r⟩
 ·exact .inl h'
 ·exact .inr ⟨g,cap,cur,rfl,hg,(ho.block g (Array.getElem?_eq_some_iff.1 hh).1 (hs g rfl)).trans hh,r⟩
theorem OVr.below (h:OVr p w B v es) (hb:Below w.heap.size w w'):OVr p w' B v es:=h.stay (Only.ofBelow (S:=fun _=>False) hb nl) (by simp)
theorem OVr.weak {B':Nat} (h:OVr p w B v es) (hB:B'≤B):OVr p w B' v es:=by
 refine ⟨⟨h.own.1,?_⟩⟩
 rcases h.own.2 with h' | ⟨g,cap,cur,h',hg,r⟩
 ·exact .inl h'
 ·exact .inr ⟨g,cap,cur,h',by omega,r⟩
theorem OVr.cell (h:OVr p w B v es) (k:Nat) (hk:k<es.length):∃ g cap,v=.slice (some ⟨g,0,none⟩) es.length cap∧B≤g∧g<w.heap.size∧(∀ i,w.frozen? ⟨g,i,none⟩=false)∧∀ i,i<es.length→LieE p w g (i*eW p) (es.getD i de):=by
 rcases h.own.2 with ⟨_,h0⟩ | ⟨g,cap,cur,rfl,hg,hh,r⟩
 ·omega
 ·refine ⟨g,cap,rfl,hg,(Array.getElem?_eq_some_iff.1 hh).1,fun i=>h.own.frozenAt i,fun i hi=>?_⟩
  have hp:i*eW p+eW p≤es.length*eW p:=by rw [show i*eW p+eW p=(i+1)*eW p from by rw [Nat.add_mul,Nat.one_mul]];exact Nat.mul_le_mul_right _ hi
  refine ⟨fun hp1=>?_,?_⟩
  ·have e0:=eflat_get p es i hi 0 (by cases p <;> simp [eW])
   rw [Nat.add_zero] at e0
   rw [h.own.cellAt (i*eW p) (by cases p <;> simp [eW] at hp ⊢ <;> omega),e0,hp1]
   rfl
  ·rw [h.own.cellAt (i*eW p+eO p) (by cases p <;> simp [eW,eO] at hp ⊢ <;> omega),eflat_get p es i hi (eO p) (by cases p <;> simp [eW,eO])]
   cases p <;> rfl
theorem OVr.els {a:Option Addr} {n c:Nat} (h:OVr p w B (.slice a n c) es) (hr:∀ e ∈ es,rE p e∧Byt w e.a e.ls):Els p w a es:=by
 refine ⟨hr,fun hz=>?_⟩
 obtain ⟨g,cap,e,h1,h2,_,h4⟩:=h.cell 0 hz
 simp at e
 obtain ⟨rfl,rfl,rfl⟩:=e
 exact ⟨g,0,rfl,h2,fun i hi=>by rw [Nat.zero_add];exact h4 i hi⟩
theorem OVr.store (h:OVr p w B v es) (k:Nat) (hk:k<es.length) (e:El) (j:Nat) (hj:j<eW p) (u:Value) (he:((es.getD k de).cells p).set j u=e.cells p) {g:Nat} (hg:v.ownBlock=some g):OVr p (w.setCell ⟨g,k*eW p+j,none⟩ u) B v (es.set k e):=by
 obtain ⟨a,c,rfl⟩:=h.form
 have hv:∃ g',a=some ⟨g',0,none⟩:=by
  obtain ⟨g',cap,e,_⟩:=h.cell k hk
  simp at e
  exact ⟨g',e.1⟩
 obtain ⟨g',rfl⟩:=hv
 obtain rfl:g'=g:=by simpa [Value.ownBlock] using hg
 have r:=(h.own.stored (k*eW p+j) u).1
 rw [eflat_set p es e j hj u k hk he] at r
 exact ⟨by rw [List.length_set];exact r⟩
theorem OVr.other (h:OVr p w B v es) {a:Option Addr} {B' U c:Nat} {zs:List Int} (hm:Mine w B' U a c zs) {g:Nat} (hg:v.ownBlock=some g):¬rowOf a g:=by
 rintro ⟨x,hx,hxg⟩
 rcases hm with ⟨h',_⟩ | ⟨g',h',g1,g2,ho⟩
 ·rw [h'] at hx;cases hx
 ·rw [h'] at hx
  simp at hx
  rw [←hx] at hxg
  simp at hxg
  subst hxg
  rcases ho.1.2 with ⟨e,_⟩ | ⟨k,cap1,cur1,e,_,hh,_⟩
  ·simp at e
  ·obtain rfl:g'=k:=by simp at e;exact e.1
   rcases h.own.2 with ⟨e2,_⟩ | ⟨k2,cap2,cur2,e2,_,hh2,_⟩
   ·subst e2;simp [Value.ownBlock] at hg
   ·subst e2
    obtain rfl:k2=g':=by simpa [Value.ownBlock] using hg
    rw [hh] at hh2
    cases p <;> simp [eT] at hh2
end
structure Box2 (W:World) (b:Nat) (x y:Value):Prop where
 c0:W.cell? ⟨b,0,none⟩=some x
 c1:W.cell? ⟨b,1,none⟩=some y
 f0:W.frozen? ⟨b,0,none⟩=false
 f1:W.frozen? ⟨b,1,none⟩=false
 lt:b<W.heap.size
theorem Box2.new (w:World) (x y:Value) (T:TypeId):Box2 (w.alloc (Obj.cells #[x,y] T)) w.heap.size x y:=⟨by simp,by simp,by simp,by simp,by simp⟩
theorem Box2.keep {W W':World} {b B:Nat} {x y:Value} (h:Box2 W b x y) (hb:Below B W W') (hB:b<B):Box2 W' b x y:=
 ⟨kp hb hB h.c0,kp hb hB h.c1,(hb.frozen (p:=⟨b,0,none⟩) hB).trans h.f0,(hb.frozen (p:=⟨b,1,none⟩) hB).trans h.f1,Nat.lt_of_lt_of_le h.lt hb.size⟩
theorem Box2.alloc {W:World} {b:Nat} {x y:Value} (h:Box2 W b x y) (o:Obj):Box2 (W.alloc o) b x y:=h.keep ((Below.refl W.heap.size W).alloc nl o) h.lt
theorem frozO {S:Nat→Prop} {w w':World} (h:Only S w w') {b o:Nat} (hb:b<w.heap.size) (hs:¬S b):w'.frozen? ⟨b,o,none⟩=w.frozen? ⟨b,o,none⟩:=by
 simp only [World.frozen?,h.block b hb hs]
theorem Box2.only {S:Nat→Prop} {W W':World} {b:Nat} {x y:Value} (h:Box2 W b x y) (ho:Only S W W') (hs:¬S b):Box2 W' b x y:=
 ⟨ho.cell h.lt hs h.c0,ho.cell h.lt hs h.c1,(frozO ho h.lt hs).trans h.f0,(frozO ho h.lt hs).trans h.f1,Nat.lt_of_lt_of_le h.lt ho.size⟩
theorem Box2.other {W:World} {b:Nat} {x y:Value} (h:Box2 W b x y) {p:Addr} (hp:p.block≠b) (u:Value):Box2 (W.setCell p u) b x y:=
 h.only (S:=fun k=>k=p.block) ((Only.refl (fun k=>k=p.block) W).setCell (.inl rfl) u) (fun e=>hp e.symm)
theorem Box2.set0 {W:World} {b:Nat} {x y:Value} (h:Box2 W b x y) (u:Value):Box2 (W.setCell ⟨b,0,none⟩ u) b u y:=by
 obtain ⟨h0,h1,h2,h3,h4⟩:=h
 exact ⟨World.cell?_setCell_same W _ _ h0,(World.cell?_setCell_other W _ _ _ (by simp)).trans h1,by simp [h2],by simp [h3],by simpa using h4⟩
theorem Tryz.infoBs :(Tryz.prog.info? 36).map (fun i=>(i.zero,i.size,i.bytes))=some (some (.slice none 0 0),1,24):=by kernel_rfl
theorem Tryz.infoPend :(Tryz.prog.info? 141).map (fun i=>(i.zero,i.size,i.bytes))=some (some (.agg #[.int .i64 0,.slice none 0 0]),2,32):=by kernel_rfl
structure Cop (p:Bool) (w:World) (B:Nat) (v:Value) (ts ss:List El):Prop where
 ct:ts.map El.ct=ss.map El.ct
 row:OVr p w B v ts
 deep:Deep w B ts
 rng:∀ e ∈ ts,rE p e
structure RawO (w:World) (B:Nat) (vs vp:Value) (ss ps:List El):Prop where
 rs:OVr false w B vs ss
 rp:OVr true w B vp ps
 deep:Deep w B (ss++ps)
 rng:(∀ e ∈ ss,rE false e)∧∀ e ∈ ps,rE true e
def RawI (w:World) (sa pa:Option Addr) (ss ps:List El):Prop:=Els false w sa ss∧Els true w pa ps
theorem RawI.below {w w':World} {sa pa:Option Addr} {ss ps:List El} {B:Nat} (h:RawI w sa pa ss ps) (hb:Below B w w') (hB:w.heap.size≤B):RawI w' sa pa ss ps:=⟨h.1.below hb hB,h.2.below hb hB⟩
theorem RawO.inn {w:World} {B n c n2 c2:Nat} {sa pa:Option Addr} {ss ps:List El} (h:RawO w B (.slice sa n c) (.slice pa n2 c2) ss ps):RawI w sa pa ss ps:=
 ⟨h.rs.els (fun e he=>⟨h.rng.1 e he,h.deep.byt e (List.mem_append_left _ he)⟩),h.rp.els (fun e he=>⟨h.rng.2 e he,h.deep.byt e (List.mem_append_right _ he)⟩)⟩
theorem RawO.weak {w:World} {B B':Nat} {vs vp:Value} {ss ps:List El} (h:RawO w B vs vp ss ps) (hB:B'≤B):RawO w B' vs vp ss ps:=⟨h.rs.weak hB,h.rp.weak hB,h.deep.weak hB,h.rng⟩
theorem RawO.form {w:World} {B:Nat} {vs vp:Value} {ss ps:List El} (h:RawO w B vs vp ss ps):∃ sa sc pa pc,vs=.slice sa ss.length sc∧vp=.slice pa ps.length pc:=by
 obtain ⟨sa,sc,h1⟩:=h.rs.form
 obtain ⟨pa,pc,h2⟩:=h.rp.form
 exact ⟨sa,sc,pa,pc,h1,h2⟩
def blkR (vs vp:Value) (ss ps:List El) (k:Nat):Prop:=vs.ownBlock=some k∨vp.ownBlock=some k∨∃ e ∈ ss++ps,rowOf e.a k
theorem RawO.inside {w:World} {B:Nat} {vs vp:Value} {ss ps:List El} (h:RawO w B vs vp ss ps):∀ k,blkR vs vp ss ps k→B≤k∧k<w.heap.size:=by
 rintro k (hk | hk | ⟨e,he,hk⟩)
 ·exact h.rs.blk hk
 ·exact h.rp.blk hk
 ·exact (h.deep.mine e he).rowE hk
theorem RawO.stay {S:Nat→Prop} {w w':World} {B:Nat} {vs vp:Value} {ss ps:List El} (h:RawO w B vs vp ss ps) (ho:Only S w w') (hs:∀ k,blkR vs vp ss ps k→¬S k):RawO w' B vs vp ss ps:=
 ⟨h.rs.stay ho (fun k hk=>hs k (.inl hk)),h.rp.stay ho (fun k hk=>hs k (.inr (.inl hk))),h.deep.stay ho (fun e he k hk=>hs k (.inr (.inr ⟨e,he,hk⟩))),h.rng⟩
theorem toByteS_any (a:Option Addr) (cap:Nat) (zs:List Int) (w:World) (hb:Byt w a zs) (hn:zs.length≤1048576) :
  Calls Tryz.prog 122 #[.slice a zs.length cap] w fun e w'=>
   e=.returned (.slice (some ⟨w.heap.size,0,none⟩) zs.length zs.length)∧Own w' w.heap.size w.heap.size zs.length zs∧Below w.heap.size w w':=by
 obtain ⟨i0,hi,hz0,hz1,hz2⟩:=info_parts Tryz.infoU8
 generalize hlen:zs.length=n at *
 have HL:Hid (zs.length=n):=hlen
 clear hlen
 go_enter Tryz.func122,Tryz.ntmps122
 go_wp2_with (at_make;refine wpList_make_full _ rfl _ _ 36 rfl w.heap.size 5 i0 (.int .u8 0) 1 Tryz.underlying36 hi hz0 hz1 .i64 .i64 _ _ n rfl rfl rfl rfl (by rw [hz2];omega) (by unfold maxLen;omega) nl ?_;intro w1 hown hgrow)
 have h0:Own w1 w.heap.size w.heap.size n (part zs 0):=by
  rw [part_zero,HL.out]
  refine ⟨?_,by intro z hz;simp at hz;omega⟩
  rw [made_zero] at hown
  simpa using hown
 have hbw:Below w.heap.size w w1:=(Below.refl _ _).grown hgrow nl (by intro k hk;cases hk)
 have H0:Hid (Own w1 w.heap.size w.heap.size n (part zs 0)):=h0
 clear h0 hown hgrow hi hz0 hz1 hz2
 go_loopw [4] (fun i wr=>∃ k:Nat,k≤n∧i=.int .i64 k∧Own wr w.heap.size w.heap.size n (part zs k)∧Below w.heap.size w wr) (fun i _=>n-(intOf i).toNat)
 case atStart=>exact ⟨0,Nat.zero_le _,rfl,H0.out,hbw⟩
 case round=>
  obtain ⟨k,hk,rfl,hown,hbel⟩:=hrel
  have HO:Hid (Own wr w.heap.size w.heap.size n (part zs k)):=hown
  clear hown hbw
  by_cases hlt:k<n
  ·obtain ⟨b,off,rfl,hbl,hcells⟩:=hb.len_pos k (by rw [HL.out];exact hlt)
   have hpl:(part zs k).length=n:=by rw [part_len _ _ (by rw [HL.out];omega)];exact HL.out
   have hsrc:wr.cell? ⟨b,off+k,none⟩=some (.int .u8 (zs.getD k 0)):=(hbel.cell (p:=⟨b,off+k,none⟩) hbl).trans (hcells k (by rw [HL.out];exact hlt))
   have hdst:=HO.out.cell k (by omega)
   have hfz:=HO.out.frozen k
   have hrng:=getD_rng hb.1 k
   have R:=HO.out.store k (zs.getD k 0) hrng
   rw [part_set _ _ (by rw [HL.out];exact hlt)] at R
   have HR:Hid (Own (wr.setCell ⟨w.heap.size,k,none⟩ (.int .u8 (zs.getD k 0))) w.heap.size w.heap.size n (part zs (k+1))):=R
   have hbel':=hbel.setCell (p:=⟨w.heap.size,k,none⟩) nl (.int .u8 (zs.getD k 0))
   have HB:Hid (Below w.heap.size w (wr.setCell ⟨w.heap.size,k,none⟩ (.int .u8 (zs.getD k 0)))):=hbel'
   clear R hcells hpl hbel' hrng hb
   go_wp2
   go_roundw
   case rel=>exact ⟨k+1,by omega,by go_num,by simpa using HR.out,by simpa using HB.out⟩
   case measure=>simp [intOf];omega
  ·have hkn:k=n:=by omega
   subst hkn
   have hall:=HO.out
   rw [←HL.out,part_all,HL.out] at hall
   have HA:Hid (Own wr w.heap.size w.heap.size k zs):=hall
   clear hall
   go_wp2
   go_ret
   exact ⟨rfl,HA.out,hbel⟩
theorem toByteSS_any (a:Option Addr) (cap:Nat) (ss:List El) (w:World) (hb:Els false w a ss) (hn:ss.length≤1048576) (hl:∀ s ∈ ss,s.ls.length≤1048576) :
  Calls Tryz.prog 83 #[.slice a ss.length cap] w fun e w'=>
   e=.returned (.slice (some ⟨w.heap.size,0,none⟩) ss.length ss.length)∧(∃ ts,Cop false w' w.heap.size (.slice (some ⟨w.heap.size,0,none⟩) ss.length ss.length) ts ss)∧Below w.heap.size w w':=by
 obtain ⟨i0,hi,hz0,hz1,hz2⟩:=info_parts Tryz.infoBs
 have HSS:Hid (Els false w a ss):=hb
 have HLS:Hid (∀ s ∈ ss,s.ls.length≤1048576):=hl
 clear hb hl
 generalize hlen:ss.length=n at *
 have HL:Hid (ss.length=n∧True):=⟨hlen,trivial⟩
 clear hlen
 go_enter Tryz.func83,Tryz.ntmps83
 go_wp2_with (at_make;refine wpList_make_full _ rfl _ _ 22 rfl w.heap.size 36 i0 (.slice none 0 0) 1 Tryz.underlying22 hi hz0 hz1 .i64 .i64 _ _ n rfl rfl rfl rfl (by rw [hz2];omega) (by unfold maxLen;omega) nl ?_;intro w1 hown hgrow)
 have hbw:Below w.heap.size w w1:=(Below.refl _ _).grown hgrow nl (by intro k hk;cases hk)
 have H0:Hid (OVr false w1 w.heap.size (.slice (some ⟨w.heap.size,0,none⟩) n n) ([]++List.replicate n de)):=by
  rw [List.nil_append]
  rw [made_secs] at hown
  exact ⟨by rw [List.length_replicate];exact hown⟩
 clear hown hgrow hi hz0 hz1 hz2
 go_loopw [4] (fun i wr=>∃ (k:Nat) (bs:List El),k≤n∧i=.int .i64 k∧bs.length=k∧bs.map El.ct=(ss.take k).map El.ct∧OVr false wr w.heap.size (.slice (some ⟨w.heap.size,0,none⟩) n n) (bs++List.replicate (n-k) de)∧Deep wr w.heap.size bs∧(∀ e ∈ bs,rE false e)∧Below w.heap.size w wr) (fun i _=>n-(intOf i).toNat)
 case atStart=>exact ⟨0,[],Nat.zero_le _,rfl,rfl,by simp,H0.out,Deep.nil _ _,by simp,hbw⟩
 case round=>
  clear H0 hbw
  obtain ⟨k,bs,hk,rfl,hbl,hct,hown,hdeep,hrg0,hbel⟩:=hrel
  have HBL:Hid (bs.length=k∧bs.map El.ct=(ss.take k).map El.ct):=⟨hbl,hct⟩
  have HO:Hid (OVr false wr w.heap.size (.slice (some ⟨w.heap.size,0,none⟩) n n) (bs++List.replicate (n-k) de)∧Deep wr w.heap.size bs∧(∀ e ∈ bs,rE false e)):=⟨hown,hdeep,hrg0⟩
  clear hbl hct hown hdeep hrg0
  by_cases hlt:k<n
  ·obtain ⟨b,off,rfl,hb1,c0,hby,hrg⟩:=(HSS.out.below hbel nl).sec k (by rw [HL.out.1];exact hlt)
   have hll:=HLS.out _ (getD_memE (k:=k) (by rw [HL.out.1];exact hlt))
   have HCS:Hid ((ss.take (k+1)).map El.ct=(ss.take k).map El.ct++[(ss.getD k de).ct]∧True):=⟨ctE_take_succ ss k (by rw [HL.out.1];exact hlt),trivial⟩
   generalize ss.getD k de=s at *
   obtain ⟨sn,sa,sc,sl⟩:=s
   simp only at c0 hby hll
   have HRG:Hid (rE false ⟨sn,sa,sc,sl⟩):=hrg
   have HBY:Hid (Byt wr sa sl):=hby
   clear hrg hby
   go_wp2_with fail
   refine (toByteS_any sa sc sl wr HBY.out hll).mono ?_
   rintro e w2 ⟨rfl,ho2,hb2⟩
   have hlt2:=ho2.lt
   have hlo:(bs++List.replicate (n-k) de).length=n:=by rw [List.length_append,List.length_replicate,HBL.out.1];omega
   have hO2:OVr false w2 w.heap.size (.slice (some ⟨w.heap.size,0,none⟩) n n) (bs++List.replicate (n-k) de):=HO.out.1.below hb2
   have hst:=hO2.store k (by omega) ⟨sn,some ⟨wr.heap.size,0,none⟩,sl.length,sl⟩ 0 (by simp [eW]) (.slice (some ⟨wr.heap.size,0,none⟩) sl.length sl.length) (by rw [getD_app_replE bs (n-k) k (by rw [HBL.out.1];exact Nat.le_refl _)];rfl) (g:=w.heap.size) rfl
   rw [set_app_replE bs (n-k) k _ HBL.out.1 (by omega),show n-k-1=n-(k+1) from by omega,show k*eW false+0=k from by simp [eW]] at hst
   have hdp:Deep w2 w.heap.size (bs++[⟨sn,some ⟨wr.heap.size,0,none⟩,sl.length,sl⟩]):=(HO.out.2.1.below hb2).snoc (U:=wr.heap.size) (.inr ⟨_,rfl,Nat.le_refl _,hlt2.2,ho2⟩) (fun x hx k hk=>HO.out.2.1.lt x hx k hk) hbel.size
   have HDP:Hid (Deep (w2.setCell ⟨w.heap.size,k,none⟩ (.slice (some ⟨wr.heap.size,0,none⟩) sl.length sl.length)) w.heap.size (bs++[⟨sn,some ⟨wr.heap.size,0,none⟩,sl.length,sl⟩])):=
    hdp.stay (S:=fun b=>b=w.heap.size) ((Only.refl (fun b=>b=w.heap.size) w2).setCell (p:=⟨w.heap.size,k,none⟩) (.inl rfl) _) (fun x hx j hj e=>hO2.other (hdp.mine x hx) (g:=w.heap.size) rfl (e ▸ hj))
   have HST:Hid _:=hst
   obtain ⟨g',cap',e',_,_,hfz,hli⟩:=hO2.cell k (by omega)
   obtain ⟨rfl,-,rfl⟩:w.heap.size=g'∧_∧n=cap':=by simpa using e'
   have f0:=hfz k
   have l2:=(hli k (by omega)).c1
   rw [getD_app_replE bs (n-k) k (by rw [HBL.out.1];exact Nat.le_refl _)] at l2
   simp only [eW,eO,cond_false,Nat.mul_one,Nat.add_zero] at l2
   have HB2:Hid (Below w.heap.size w w2):=hbel.trans (hb2.mono hbel.size)
   have HRN:Hid (∀ e ∈ bs++[⟨sn,some ⟨wr.heap.size,0,none⟩,sl.length,sl⟩],rE false e):=rE_snoc HO.out.2.2 ⟨HRG.out.lo,HRG.out.hi,HRG.out.len,HRG.out.zero⟩
   clear hst hO2 ho2 hb2 HO hbel HBY c0 hdp hfz hli e' HRG hlo
   go_wp2
   go_roundw
   case rel=>exact ⟨k+1,bs++[⟨sn,some ⟨wr.heap.size,0,none⟩,sl.length,sl⟩],by omega,by go_num,by rw [List.length_append,HBL.out.1];rfl,by rw [List.map_append,HBL.out.2,HCS.out.1];rfl,HST.out,HDP.out,HRN.out,HB2.out.setCell (p:=⟨w.heap.size,_,none⟩) nl _⟩
   case measure=>simp [intOf];omega
  ·have hkn:k=n:=by omega
   subst hkn
   have HA:Hid (Cop false wr w.heap.size (.slice (some ⟨w.heap.size,0,none⟩) k k) bs ss):=by
    have h1:=HO.out.1
    rw [Nat.sub_self,List.replicate_zero,List.append_nil] at h1
    exact ⟨by rw [HBL.out.2,List.take_of_length_le (by rw [HL.out.1];exact Nat.le_refl _)],h1,HO.out.2.1,HO.out.2.2⟩
   clear HO
   go_wp2
   go_ret
   exact ⟨rfl,⟨bs,HA.out⟩,hbel⟩
theorem toPend_any (n:Int) (a:Option Addr) (cap:Nat) (zs:List Int) (w:World) (hb:Byt w a zs) (hn:zs.length≤1048576) :
  Calls Tryz.prog 123 #[.agg #[.int .i64 n,.slice a zs.length cap]] w fun e w'=>
   ∃ g,e=.returned (.agg #[.int .i64 n,.slice (some ⟨g,0,none⟩) zs.length zs.length])∧Own w' w.heap.size g zs.length zs∧Below w.heap.size w w':=by
 go_enter Tryz.func123,Tryz.ntmps123
 go_wp2_with fail
 have hw:Below w.heap.size w (((w.alloc (Obj.cells #[.int .i64 n,.slice a zs.length cap] 149)).alloc (Obj.cells #[.int .i64 0,.slice none 0 0] 141)).alloc (Obj.cells #[.int .i64 n,.slice none 0 0] 141)):=
  (((Below.refl _ _).alloc nl _).alloc (by simp) _).alloc (by simp;omega) _
 refine (toByteS_any a cap zs _ (hb.below hw nl) hn).mono ?_
 rintro e w1 ⟨rfl,hown,hbel⟩
 obtain ⟨hc,hf⟩:=bcell hbel
 have hz:=hbel.size
 have hb2:=hw.trans (hbel.mono (by simp;omega))
 simp at hc hf hz hown
 clear hbel hw
 go_wp2
 refine bodyPost_ret (v:=.agg #[.int .i64 n,.slice (some ⟨w.heap.size+1+1+1,0,none⟩) zs.length zs.length]) (by simp [results,Tryz.results123,go_sem,hc]) rfl ⟨_,rfl,?_,?_⟩
 ·refine Own.mono (B:=w.heap.size+1+1+1) ?_ (by omega)
  repeat (refine Own.setCell_other ?_ (by simp) _)
  exact hown
 ·repeat (refine Below.setCell ?_ (by first | (simp;done) | (simp;omega)) _)
  exact hb2
theorem toPendS_any (a:Option Addr) (cap:Nat) (ss:List El) (w:World) (hb:Els true w a ss) (hn:ss.length≤1048576) (hl:∀ s ∈ ss,s.ls.length≤1048576) :
  Calls Tryz.prog 84 #[.slice a ss.length cap] w fun e w'=>
   e=.returned (.slice (some ⟨w.heap.size,0,none⟩) ss.length ss.length)∧(∃ ts,Cop true w' w.heap.size (.slice (some ⟨w.heap.size,0,none⟩) ss.length ss.length) ts ss)∧Below w.heap.size w w':=by
 obtain ⟨i0,hi,hz0,hz1,hz2⟩:=info_parts Tryz.infoPend
 have HSS:Hid (Els true w a ss):=hb
 have HLS:Hid (∀ s ∈ ss,s.ls.length≤1048576):=hl
 clear hb hl
 generalize hlen:ss.length=n at *
 have HL:Hid (ss.length=n∧True):=⟨hlen,trivial⟩
 clear hlen
 go_enter Tryz.func84,Tryz.ntmps84
 go_wp2_with (at_make;refine wpList_make_full _ rfl _ _ 39 rfl w.heap.size 141 i0 (.agg #[.int .i64 0,.slice none 0 0]) 2 Tryz.underlying39 hi hz0 hz1 .i64 .i64 _ _ n rfl rfl rfl rfl (by rw [hz2];omega) (by unfold maxLen;omega) nl ?_;intro w1 hown hgrow)
 have hbw:Below w.heap.size w w1:=(Below.refl _ _).grown hgrow nl (by intro k hk;cases hk)
 have H0:Hid (OVr true w1 w.heap.size (.slice (some ⟨w.heap.size,0,none⟩) n n) ([]++List.replicate n de)):=by
  rw [List.nil_append]
  rw [made_pens] at hown
  exact ⟨by rw [List.length_replicate];exact hown⟩
 clear hown hgrow hi hz0 hz1 hz2
 go_loopw [4] (fun i wr=>∃ (k:Nat) (bs:List El),k≤n∧i=.int .i64 k∧bs.length=k∧bs.map El.ct=(ss.take k).map El.ct∧OVr true wr w.heap.size (.slice (some ⟨w.heap.size,0,none⟩) n n) (bs++List.replicate (n-k) de)∧Deep wr w.heap.size bs∧(∀ e ∈ bs,rE true e)∧Below w.heap.size w wr) (fun i _=>n-(intOf i).toNat)
 case atStart=>exact ⟨0,[],Nat.zero_le _,rfl,rfl,by simp,H0.out,Deep.nil _ _,by simp,hbw⟩
 case round=>
  clear H0 hbw
  obtain ⟨k,bs,hk,rfl,hbl,hct,hown,hdeep,hrg0,hbel⟩:=hrel
  have HBL:Hid (bs.length=k∧bs.map El.ct=(ss.take k).map El.ct):=⟨hbl,hct⟩
  have HO:Hid (OVr true wr w.heap.size (.slice (some ⟨w.heap.size,0,none⟩) n n) (bs++List.replicate (n-k) de)∧Deep wr w.heap.size bs∧(∀ e ∈ bs,rE true e)):=⟨hown,hdeep,hrg0⟩
  clear hbl hct hown hdeep hrg0
  by_cases hlt:k<n
  ·obtain ⟨b,off,rfl,hb1,c0,c1,hby,hrg⟩:=(HSS.out.below hbel nl).pen k (by rw [HL.out.1];exact hlt)
   have hll:=HLS.out _ (getD_memE (k:=k) (by rw [HL.out.1];exact hlt))
   have HCS:Hid ((ss.take (k+1)).map El.ct=(ss.take k).map El.ct++[(ss.getD k de).ct]∧True):=⟨ctE_take_succ ss k (by rw [HL.out.1];exact hlt),trivial⟩
   generalize ss.getD k de=s at *
   obtain ⟨sn,sa,sc,sl⟩:=s
   simp only at c0 c1 hby hll
   have HRG:Hid (rE true ⟨sn,sa,sc,sl⟩):=hrg
   have HBY:Hid (Byt wr sa sl):=hby
   clear hrg hby
   go_wp2_with fail
   refine (toPend_any sn sa sc sl wr HBY.out hll).mono ?_
   rintro e w2 ⟨g2,rfl,ho2,hb2⟩
   have hlt2:=ho2.lt
   have hlo:(bs++List.replicate (n-k) de).length=n:=by rw [List.length_append,List.length_replicate,HBL.out.1];omega
   have hgd:=getD_app_replE bs (n-k) k (by rw [HBL.out.1];exact Nat.le_refl _)
   have hO2:OVr true w2 w.heap.size (.slice (some ⟨w.heap.size,0,none⟩) n n) (bs++List.replicate (n-k) de):=HO.out.1.below hb2
   have hs1:=hO2.store k (by omega) ⟨sn,none,0,[]⟩ 0 (by simp [eW]) (.int .i64 sn) (by rw [hgd];rfl) (g:=w.heap.size) rfl
   have hst:=hs1.store k (by rw [List.length_set];omega) ⟨sn,some ⟨g2,0,none⟩,sl.length,sl⟩ 1 (by simp [eW]) (.slice (some ⟨g2,0,none⟩) sl.length sl.length) (by rw [List.getD_eq_getElem?_getD,List.getElem?_set_self (by omega)];rfl) (g:=w.heap.size) rfl
   rw [List.set_set,set_app_replE bs (n-k) k _ HBL.out.1 (by omega),show n-k-1=n-(k+1) from by omega,show k*eW true+0=k*2 from by simp [eW],show k*eW true+1=k*2+1 from by simp [eW]] at hst
   have hdp:Deep w2 w.heap.size (bs++[⟨sn,some ⟨g2,0,none⟩,sl.length,sl⟩]):=(HO.out.2.1.below hb2).snoc (U:=wr.heap.size) (.inr ⟨_,rfl,hlt2.1,hlt2.2,ho2⟩) (fun x hx k hk=>HO.out.2.1.lt x hx k hk) hbel.size
   have HDP:Hid (Deep ((w2.setCell ⟨w.heap.size,k*2,none⟩ (.int .i64 sn)).setCell ⟨w.heap.size,k*2+1,none⟩ (.slice (some ⟨g2,0,none⟩) sl.length sl.length)) w.heap.size (bs++[⟨sn,some ⟨g2,0,none⟩,sl.length,sl⟩])):=
    hdp.stay (S:=fun b=>b=w.heap.size) (((Only.refl (fun b=>b=w.heap.size) w2).setCell (p:=⟨w.heap.size,k*2,none⟩) (.inl rfl) _).setCell (p:=⟨w.heap.size,k*2+1,none⟩) (.inl rfl) _) (fun x hx j hj e=>hO2.other (hdp.mine x hx) (g:=w.heap.size) rfl (e ▸ hj))
   have HST:Hid _:=hst
   obtain ⟨g',cap',e',_,_,hfz,hli⟩:=hO2.cell k (by omega)
   obtain ⟨rfl,-,rfl⟩:w.heap.size=g'∧_∧n=cap':=by simpa using e'
   have f0:=hfz (k*2)
   have f1:=hfz (k*2+1)
   have l1:=(hli k (by omega)).c0 rfl
   have l2:=(hli k (by omega)).c1
   rw [hgd] at l1 l2
   simp only [eW,eO,cond_true] at l1 l2
   have HB2:Hid (Below w.heap.size w w2):=hbel.trans (hb2.mono hbel.size)
   have HRN:Hid (∀ e ∈ bs++[⟨sn,some ⟨g2,0,none⟩,sl.length,sl⟩],rE true e):=rE_snoc HO.out.2.2 ⟨HRG.out.lo,HRG.out.hi,HRG.out.len,HRG.out.zero⟩
   clear hst hs1 hO2 ho2 hb2 HO hbel HBY c0 c1 hdp hfz hli e' HRG hlo hgd
   go_wp2
   go_roundw
   case rel=>exact ⟨k+1,bs++[⟨sn,some ⟨g2,0,none⟩,sl.length,sl⟩],by omega,by go_num,by rw [List.length_append,HBL.out.1];rfl,by rw [List.map_append,HBL.out.2,HCS.out.1];rfl,HST.out,HDP.out,HRN.out,(HB2.out.setCell (p:=⟨w.heap.size,_,none⟩) nl _).setCell (p:=⟨w.heap.size,_,none⟩) nl _⟩
   case measure=>simp [intOf];omega
  ·have hkn:k=n:=by omega
   subst hkn
   have HA:Hid (Cop true wr w.heap.size (.slice (some ⟨w.heap.size,0,none⟩) k k) bs ss):=by
    have h1:=HO.out.1
    rw [Nat.sub_self,List.replicate_zero,List.append_nil] at h1
    exact ⟨by rw [HBL.out.2,List.take_of_length_le (by rw [HL.out.1];exact Nat.le_refl _)],h1,HO.out.2.1,HO.out.2.2⟩
   clear HO
   go_wp2
   go_ret
   exact ⟨rfl,⟨bs,HA.out⟩,hbel⟩
theorem toRaw_any (sa pa:Option Addr) (sc pc:Nat) (ss ps:List El) (w:World) (hb:RawI w sa pa ss ps) (hn:ss.length≤1048576) (hm:ps.length≤1048576) (hl:∀ s ∈ ss,s.ls.length≤1048576) (hp:∀ s ∈ ps,s.ls.length≤1048576) :
  Calls Tryz.prog 46 #[.agg #[.slice sa ss.length sc,.slice pa ps.length pc]] w fun e w'=>
   (∃ vs vp ts qs,e=.returned (.agg #[vs,vp])∧ts.map El.ct=ss.map El.ct∧qs.map El.ct=ps.map El.ct∧RawO w' w.heap.size vs vp ts qs)∧Below w.heap.size w w':=by
 have HB:Hid (RawI w sa pa ss ps):=hb
 have HL:Hid ((∀ s ∈ ss,s.ls.length≤1048576)∧(∀ s ∈ ps,s.ls.length≤1048576)):=⟨hl,hp⟩
 clear hb hl hp
 go_enter Tryz.func46,Tryz.ntmps46
 go_wp2_with fail
 have hw:Below w.heap.size w (((w.alloc (Obj.cells #[.slice sa ss.length sc,.slice pa ps.length pc] 25)).alloc (Obj.cells #[.slice none 0 0,.slice none 0 0] 41)).alloc (Obj.cells #[.slice none 0 0,.slice none 0 0] 41)):=
  (((Below.refl _ _).alloc nl _).alloc (by simp) _).alloc (by simp;omega) _
 refine (toByteSS_any sa sc ss _ (HB.out.1.below hw nl) hn HL.out.1).mono ?_
 rintro e w1 ⟨rfl,⟨ts,hcop⟩,hbel⟩
 have hz:=hbel.size
 have hx0:Box2 w1 w.heap.size (.slice sa ss.length sc) (.slice pa ps.length pc):=(((Box2.new w _ _ 25).alloc _).alloc _).keep hbel (by simp;omega)
 have hx1:Box2 w1 (w.heap.size+1) (.slice none 0 0) (.slice none 0 0):=by
  have h9:=((Box2.new (w.alloc (Obj.cells #[.slice sa ss.length sc,.slice pa ps.length pc] 25)) (.slice none 0 0) (.slice none 0 0) 41).alloc (Obj.cells #[.slice none 0 0,.slice none 0 0] 41)).keep hbel (by simp)
  simpa using h9
 have hx2:Box2 w1 (w.heap.size+1+1) (.slice none 0 0) (.slice none 0 0):=by
  have h9:=(Box2.new ((w.alloc (Obj.cells #[.slice sa ss.length sc,.slice pa ps.length pc] 25)).alloc (Obj.cells #[.slice none 0 0,.slice none 0 0] 41)) (.slice none 0 0) (.slice none 0 0) 41).keep hbel (by simp)
  simpa using h9
 have HB1:Hid (Below w.heap.size w w1):=hw.trans (hbel.mono (by simp;omega))
 have HCOP:Hid (Cop false w1 (w.heap.size+1+1+1) (.slice (some ⟨w.heap.size+1+1+1,0,none⟩) ss.length ss.length) ts ss):=by
  have h9:=hcop
  simp at h9
  exact h9
 simp at hz
 clear hbel hw hcop
 have HX:Hid (Box2 w1 (w.heap.size+1) (.slice none 0 0) (.slice none 0 0)∧Box2 w1 (w.heap.size+1+1) (.slice none 0 0) (.slice none 0 0)):=⟨hx1,hx2⟩
 obtain ⟨r0,r1,-,-,rl⟩:=hx0
 obtain ⟨s0,s1,p0,p1,sl⟩:=hx1
 obtain ⟨t0,t1,q0,q1,tl⟩:=hx2
 go_wp2_with fail
 have ho2:Only (fun b=>b=w.heap.size+1+1) w1 (w1.setCell ⟨w.heap.size+1+1,0,none⟩ (.slice (some ⟨w.heap.size+1+1+1,0,none⟩) ss.length ss.length)):=(Only.refl (fun b=>b=w.heap.size+1+1) w1).setCell (p:=⟨w.heap.size+1+1,0,none⟩) (.inl rfl) _
 have hb2:Below w.heap.size w (w1.setCell ⟨w.heap.size+1+1,0,none⟩ (.slice (some ⟨w.heap.size+1+1+1,0,none⟩) ss.length ss.length)):=HB1.out.setCell (by simp;omega) _
 have HC2:Hid (Cop false (w1.setCell ⟨w.heap.size+1+1,0,none⟩ (.slice (some ⟨w.heap.size+1+1+1,0,none⟩) ss.length ss.length)) (w.heap.size+1+1+1) (.slice (some ⟨w.heap.size+1+1+1,0,none⟩) ss.length ss.length) ts ss):=
  ⟨HCOP.out.ct,HCOP.out.row.stay ho2 (fun k hk e=>by have:=(HCOP.out.row.blk hk).1;omega),HCOP.out.deep.stay ho2 (fun x hx k hk e=>by have:=((HCOP.out.deep.mine x hx).rowE hk).1;omega),HCOP.out.rng⟩
 refine (toPendS_any pa pc ps _ (HB.out.2.below hb2 nl) hm HL.out.2).mono ?_
 rintro e w2 ⟨rfl,⟨qs,hcop⟩,hbel⟩
 have hx1:=(HX.out.1.other (p:=⟨w.heap.size+1+1,0,none⟩) (by simp) (.slice (some ⟨w.heap.size+1+1+1,0,none⟩) ss.length ss.length)).keep hbel (by simp;omega)
 have hx2:=(HX.out.2.set0 (.slice (some ⟨w.heap.size+1+1+1,0,none⟩) ss.length ss.length)).keep hbel (by simp;omega)
 have hz2:=hbel.size
 have HB2:Hid (Below w.heap.size w w2):=hb2.trans (hbel.mono (by simp;omega))
 have HP2:Hid (Cop true w2 w1.heap.size (.slice (some ⟨w1.heap.size,0,none⟩) ps.length ps.length) qs ps):=by
  have h9:=hcop
  simp at h9
  exact h9
 have HS2:Hid (Cop false w2 (w.heap.size+1+1+1) (.slice (some ⟨w.heap.size+1+1+1,0,none⟩) ss.length ss.length) ts ss∧∀ x ∈ ts,∀ k,rowOf x.a k→k<w1.heap.size):=
  ⟨⟨HC2.out.ct,HC2.out.row.below hbel,HC2.out.deep.below hbel,HC2.out.rng⟩,fun x hx k hk=>by have:=HC2.out.deep.lt x hx k hk;simpa using this⟩
 simp at hz2
 clear hbel hcop hb2 ho2 HC2 HCOP HB1 HX r0 r1 rl s0 s1 p0 p1 sl t0 t1 q0 q1 tl
 obtain ⟨s0,s1,p0,p1,sl⟩:=hx1
 obtain ⟨t0,t1,q0,q1,tl⟩:=hx2
 go_wp2
 have hon:Only (fun b=>b=w.heap.size+1∨b=w.heap.size+1+1) w2 (((w2.setCell ⟨w.heap.size+1+1,1,none⟩ (.slice (some ⟨w1.heap.size,0,none⟩) ps.length ps.length)).setCell ⟨w.heap.size+1,0,none⟩ (.slice (some ⟨w.heap.size+1+1+1,0,none⟩) ss.length ss.length)).setCell ⟨w.heap.size+1,1,none⟩ (.slice (some ⟨w1.heap.size,0,none⟩) ps.length ps.length)):=
  (((Only.refl (fun b=>b=w.heap.size+1∨b=w.heap.size+1+1) w2).setCell (p:=⟨w.heap.size+1+1,1,none⟩) (.inl (.inr rfl)) _).setCell (p:=⟨w.heap.size+1,0,none⟩) (.inl (.inl rfl)) _).setCell (p:=⟨w.heap.size+1,1,none⟩) (.inl (.inl rfl)) _
 refine bodyPost_ret (v:=.agg #[.slice (some ⟨w.heap.size+1+1+1,0,none⟩) ss.length ss.length,.slice (some ⟨w1.heap.size,0,none⟩) ps.length ps.length]) (by simp [results,Tryz.results46,go_sem,s0,s1]) rfl ⟨⟨_,_,ts,qs,rfl,HS2.out.1.ct,HP2.out.ct,?_⟩,?_⟩
 ·have hd:Deep w2 (w.heap.size+1+1+1) (ts++qs):=HS2.out.1.deep.app HP2.out.deep HS2.out.2 (by omega)
  have hr:RawO w2 (w.heap.size+1+1+1) (.slice (some ⟨w.heap.size+1+1+1,0,none⟩) ss.length ss.length) (.slice (some ⟨w1.heap.size,0,none⟩) ps.length ps.length) ts qs:=⟨HS2.out.1.row,HP2.out.row.weak (by omega),hd,HS2.out.1.rng,HP2.out.rng⟩
  exact (hr.stay hon (fun k hk e=>by have:=(hr.inside k hk).1;omega)).weak (by omega)
 ·exact HB2.out.trans (hon.below (by have:=HB2.out.size;omega) (by intro k hk;omega))
theorem szByteS_any (a:Option Addr) (n cap:Nat) (left:Int) (w:World) (hn:n≤maxLen) (h0:0≤left) (h1:left≤1048576) :
  Calls Tryz.prog 112 #[.slice a n cap,.int .i64 left] w fun e w'=>e=.returned (.int .i64 (if (n:Int)≤left then left-n else -1))∧w'=w:=by
 unfold maxLen at hn
 by_cases h:(n:Int)≤left
 ·go_enter Tryz.func112,Tryz.ntmps112
  go_wp2
  go_ret
  exact ⟨rfl,rfl⟩
 ·go_enter Tryz.func112,Tryz.ntmps112
  go_wp2
  go_ret
  exact ⟨rfl,rfl⟩
theorem szByteSS_any (a:Option Addr) (cap:Nat) (ss:List El) (left:Int) (w:World) (hb:Els false w a ss) (hm:ss.length≤maxLen) (h0:0≤left) (h1:left≤1048576) :
  Calls Tryz.prog 72 #[.slice a ss.length cap,.int .i64 left] w fun e w'=>(∃ z:Int,e=.returned (.int .i64 z)∧(z=-1∨(0≤z∧z≤left∧z+ss.length+elets ss=left)))∧w'=w:=by
 have HSS:Hid (Els false w a ss):=hb
 unfold maxLen at hm
 clear hb
 have HEL:Hid (elets (ss.take ss.length)=elets ss∧True):=⟨by rw [List.take_length],trivial⟩
 generalize hlen:ss.length=n at *
 have HL:Hid (ss.length=n∧True):=⟨hlen,trivial⟩
 clear hlen
 by_cases hn:(n:Int)≤left
 ·go_enter Tryz.func72,Tryz.ntmps72
  go_wp2
  go_loop [1,5] (fun l i=>∃ (k:Nat) (z:Int),k≤n∧i=.int .i64 k∧l=.int .i64 z∧0≤z∧z≤1048576∧z≤left∧(n:Int)+(elets (ss.take k):Nat)+z=left) (fun _ i=>n-(intOf i).toNat)
  case atStart=>exact ⟨0,left-n,Nat.zero_le _,rfl,rfl,by omega,by omega,by omega,by simp [elets];omega⟩
  case round=>
   obtain ⟨k,z,hk,rfl,rfl,hz0,hz1,hz2,hsum⟩:=hrel
   have HSUM:Hid ((n:Int)+(elets (ss.take k):Nat)+z=left∧True):=⟨hsum,trivial⟩
   clear hsum
   by_cases hlt:k<n
   ·obtain ⟨b,off,rfl,hb1,c0,hby,hrg⟩:=HSS.out.sec k (by rw [HL.out.1];exact hlt)
    have HT:Hid (elets (ss.take (k+1))=elets (ss.take k)+(ss.getD k de).ls.length∧True):=⟨elets_take_succ ss k (by rw [HL.out.1];exact hlt),trivial⟩
    generalize ss.getD k de=s at *
    obtain ⟨sn,sa,sc,sl⟩:=s
    simp only at c0 HT
    have hml:=hrg.len
    simp only at hml
    clear hby hrg
    have HSZ:=szByteS_any sa sl.length sc z w hml hz0 hz1
    go_wp2_with fail
    refine HSZ.mono ?_
    clear HSZ
    rintro e w1 ⟨rfl,rfl⟩
    by_cases hc:(sl.length:Int)≤z
    ·rw [if_pos hc]
     have HS2:Hid ((n:Int)+(elets (ss.take (k+1)):Nat)+(z-sl.length)=left∧True):=by
      have h1:=HSUM.out.1
      have h2:=HT.out.1
      exact ⟨by omega,trivial⟩
     go_wp2
     go_round
     case rel=>exact ⟨k+1,z-sl.length,by omega,by go_num,rfl,by omega,by omega,by omega,HS2.out.1⟩
     case measure=>simp [intOf];omega
    ·rw [if_neg hc]
     go_wp2
     go_ret
     exact ⟨⟨-1,rfl,.inl rfl⟩,rfl⟩
   ·have hkn:k=n:=by omega
    subst hkn
    have HF:Hid (z+(k:Int)+elets ss=left∧True):=by
     have h1:=HSUM.out.1
     rw [HEL.out.1] at h1
     exact ⟨by omega,trivial⟩
    go_wp2
    go_ret
    exact ⟨⟨z,rfl,.inr ⟨hz0,hz2,HF.out.1⟩⟩,rfl⟩
 ·go_enter Tryz.func72,Tryz.ntmps72
  go_wp2
  go_ret
  exact ⟨⟨-1,rfl,.inl rfl⟩,rfl⟩
theorem szPend_any (n:Int) (a:Option Addr) (cap:Nat) (zs:List Int) (left:Int) (w:World) (hn:zs.length≤maxLen) (h0:0≤left) (h1:left≤1048576) :
  Calls Tryz.prog 113 #[.agg #[.int .i64 n,.slice a zs.length cap],.int .i64 left] w fun e w'=>e=.returned (.int .i64 (if (zs.length:Int)≤left then left-zs.length else -1))∧Below w.heap.size w w':=by
 by_cases h:(zs.length:Int)≤left
 ·go_enter Tryz.func113,Tryz.ntmps113
  go_wp2_with (go_at_call 112;refine (szByteS_any _ _ _ _ _ hn h0 h1).mono ?_;rintro e w' ⟨rfl,rfl⟩;rw [if_pos h])
  go_ret
  exact ⟨rfl,(Below.refl _ _).alloc nl _⟩
 ·go_enter Tryz.func113,Tryz.ntmps113
  go_wp2_with (go_at_call 112;refine (szByteS_any _ _ _ _ _ hn h0 h1).mono ?_;rintro e w' ⟨rfl,rfl⟩;rw [if_neg h])
  go_ret
  exact ⟨rfl,(Below.refl _ _).alloc nl _⟩
theorem szPendS_any (a:Option Addr) (cap:Nat) (ss:List El) (left:Int) (w:World) (hb:Els true w a ss) (hm:ss.length≤maxLen) (h0:0≤left) (h1:left≤1048576) :
  Calls Tryz.prog 73 #[.slice a ss.length cap,.int .i64 left] w fun e w'=>(∃ z:Int,e=.returned (.int .i64 z)∧(z=-1∨(0≤z∧z≤left∧z+ss.length+elets ss=left)))∧Below w.heap.size w w':=by
 have HSS:Hid (Els true w a ss):=hb
 unfold maxLen at hm
 clear hb
 have HEL:Hid (elets (ss.take ss.length)=elets ss∧True):=⟨by rw [List.take_length],trivial⟩
 generalize hlen:ss.length=n at *
 have HL:Hid (ss.length=n∧True):=⟨hlen,trivial⟩
 clear hlen
 by_cases hn:(n:Int)≤left
 ·go_enter Tryz.func73,Tryz.ntmps73
  go_wp2
  go_loopw [1,5] (fun l i wr=>∃ (k:Nat) (z:Int),k≤n∧i=.int .i64 k∧l=.int .i64 z∧0≤z∧z≤1048576∧z≤left∧(n:Int)+(elets (ss.take k):Nat)+z=left∧Below w.heap.size w wr) (fun _ i _=>n-(intOf i).toNat)
  case atStart=>exact ⟨0,left-n,Nat.zero_le _,rfl,rfl,by omega,by omega,by omega,by simp [elets];omega,Below.refl _ _⟩
  case round=>
   obtain ⟨k,z,hk,rfl,rfl,hz0,hz1,hz2,hsum,hbel⟩:=hrel
   have HSUM:Hid ((n:Int)+(elets (ss.take k):Nat)+z=left∧True):=⟨hsum,trivial⟩
   clear hsum
   by_cases hlt:k<n
   ·obtain ⟨b,off,rfl,hb1,c0,c1,hby,hrg⟩:=(HSS.out.below hbel nl).pen k (by rw [HL.out.1];exact hlt)
    have HT:Hid (elets (ss.take (k+1))=elets (ss.take k)+(ss.getD k de).ls.length∧True):=⟨elets_take_succ ss k (by rw [HL.out.1];exact hlt),trivial⟩
    generalize ss.getD k de=s at *
    obtain ⟨sn,sa,sc,sl⟩:=s
    simp only at c0 c1 HT
    have hml:=hrg.len
    simp only at hml
    clear hby hrg
    have HSZ:=szPend_any sn sa sc sl z wr hml hz0 hz1
    go_wp2_with fail
    refine HSZ.mono ?_
    clear HSZ
    rintro e w1 ⟨rfl,hb2⟩
    have HB2:Hid (Below w.heap.size w w1):=hbel.trans (hb2.mono hbel.size)
    clear hb2 hbel c0 c1
    by_cases hc:(sl.length:Int)≤z
    ·rw [if_pos hc]
     have HS2:Hid ((n:Int)+(elets (ss.take (k+1)):Nat)+(z-sl.length)=left∧True):=by
      have h1:=HSUM.out.1
      have h2:=HT.out.1
      exact ⟨by omega,trivial⟩
     go_wp2
     go_roundw
     case rel=>exact ⟨k+1,z-sl.length,by omega,by go_num,rfl,by omega,by omega,by omega,HS2.out.1,HB2.out⟩
     case measure=>simp [intOf];omega
    ·rw [if_neg hc]
     go_wp2
     go_ret
     exact ⟨⟨-1,rfl,.inl rfl⟩,HB2.out⟩
   ·have hkn:k=n:=by omega
    subst hkn
    have HF:Hid (z+(k:Int)+elets ss=left∧True):=by
     have h1:=HSUM.out.1
     rw [HEL.out.1] at h1
     exact ⟨by omega,trivial⟩
    go_wp2
    go_ret
    exact ⟨⟨z,rfl,.inr ⟨hz0,hz2,HF.out.1⟩⟩,hbel⟩
 ·go_enter Tryz.func73,Tryz.ntmps73
  go_wp2
  go_ret
  exact ⟨⟨-1,rfl,.inl rfl⟩,Below.refl _ _⟩
structure Few (ss ps:List El):Prop where
 n:ss.length≤1048576
 m:ps.length≤1048576
 l:∀ s ∈ ss,s.ls.length≤1048576
 p:∀ s ∈ ps,s.ls.length≤1048576
 sum:ss.length+elets ss+ps.length+elets ps≤1048576
theorem Few.mk' {ss ps:List El} (h:ss.length+elets ss+ps.length+elets ps≤1048576):Few ss ps:=
 ⟨by omega,by omega,fun s hs=>by have:=elets_mem hs;omega,fun s hs=>by have:=elets_mem hs;omega,h⟩
def dp :Int × Int:=(0,0)
def rP (p:Int × Int):Prop:=(-9223372036854775808≤p.1∧p.1≤9223372036854775807)∧(-9223372036854775808≤p.2∧p.2≤9223372036854775807)
def pcs (p:Int × Int):List Value:=[.int .i64 p.1,.int .i64 p.2]
def Pls (w:World) (a:Option Addr) (ps:List (Int × Int)):Prop:=
 (∀ p ∈ ps,rP p)∧(0<ps.length→∃ b off,a=some ⟨b,off,none⟩∧b<w.heap.size∧∀ i,i<ps.length→w.cell? ⟨b,off+i*2,none⟩=some (.int .i64 (ps.getD i dp).1)∧w.cell? ⟨b,off+i*2+1,none⟩=some (.int .i64 (ps.getD i dp).2))
theorem getD_memP {ps:List (Int × Int)} {k:Nat} (hk:k<ps.length):ps.getD k dp ∈ ps:=by
 rw [List.getD_eq_getElem?_getD,List.getElem?_eq_getElem hk];exact List.getElem_mem hk
theorem Pls.below {w w':World} {a:Option Addr} {ps:List (Int × Int)} {B:Nat} (h:Pls w a ps) (hb:Below B w w') (hB:w.heap.size≤B):Pls w' a ps:=by
 refine ⟨h.1,fun hz=>?_⟩
 obtain ⟨b,off,rfl,hlt,hc⟩:=h.2 hz
 exact ⟨b,off,rfl,Nat.lt_of_lt_of_le hlt hb.size,fun i hi=>⟨keep hb (by omega) (hc i hi).1,keep hb (by omega) (hc i hi).2⟩⟩
theorem Pls.len_pos {w:World} {a:Option Addr} {ps:List (Int × Int)} (h:Pls w a ps) (i:Nat) (hi:i<ps.length):∃ b off,a=some ⟨b,off,none⟩∧b<w.heap.size∧∀ i,i<ps.length→w.cell? ⟨b,off+i*2,none⟩=some (.int .i64 (ps.getD i dp).1)∧w.cell? ⟨b,off+i*2+1,none⟩=some (.int .i64 (ps.getD i dp).2):=h.2 (by omega)
theorem Pls.rng {w:World} {a:Option Addr} {ps:List (Int × Int)} (h:Pls w a ps) (k:Nat) (hk:k<ps.length):rP (ps.getD k dp):=h.1 _ (getD_memP hk)
theorem Pls.alloc {w:World} {a:Option Addr} {ps:List (Int × Int)} (h:Pls w a ps) (o:Obj):Pls (w.alloc o) a ps:=h.below ((Below.refl w.heap.size w).alloc nl o) nl
theorem flatP_len (ps:List (Int × Int)):(ps.flatMap pcs).length=ps.length*2:=by
 induction ps with
 | nil=>rfl
 | cons s ps ih=>rw [List.flatMap_cons,List.length_append,ih,List.length_cons];simp [pcs];omega
theorem flatP_get (ps:List (Int × Int)):∀ k,k<ps.length→(ps.flatMap pcs)[k*2]?=some (.int .i64 (ps.getD k dp).1)∧(ps.flatMap pcs)[k*2+1]?=some (.int .i64 (ps.getD k dp).2):=by
 induction ps with
 | nil=>intro k hk;simp at hk
 | cons s ps ih=>
  intro k hk
  cases k with
  | zero=>simp [List.flatMap_cons,pcs]
  | succ k=>
   have:=ih k (by simpa using hk)
   rw [List.flatMap_cons,show (k+1)*2=k*2+2 from by omega]
   simpa [pcs] using this
theorem flatP_set (s:Int × Int) (ps:List (Int × Int)):∀ k,k<ps.length→((ps.flatMap pcs).set (k*2) (.int .i64 s.1)).set (k*2+1) (.int .i64 s.2)=(ps.set k s).flatMap pcs:=by
 induction ps with
 | nil=>intro k hk;simp at hk
 | cons x ps ih=>
  intro k hk
  cases k with
  | zero=>simp [List.flatMap_cons,pcs]
  | succ k=>
   have:=ih k (by simpa using hk)
   rw [List.set_cons_succ,List.flatMap_cons,List.flatMap_cons,←this,show (k+1)*2=k*2+2 from by omega]
   simp [pcs]
def OVp (w:World) (B:Nat) (v:Value) (ps:List (Int × Int)):Prop:=w.ownsRow B 127 2 v ps.length (ps.flatMap pcs)∧∀ p ∈ ps,rP p
def OwP (w:World) (B g cap:Nat) (ps:List (Int × Int)):Prop:=OVp w B (.slice (some ⟨g,0,none⟩) ps.length cap) ps
section
variable {w w' : World} {B : Nat} {v : Value} {ps : List (Int × Int)} {g cap : Nat}
theorem OVp.blk (h:OVp w B v ps) {k:Nat} (hk:v.ownBlock=some k):B≤k∧k<w.heap.size:=by
 rcases h.1.2 with ⟨rfl,h0⟩ | ⟨g,cap,cur,rfl,hg,hh,_⟩
 ·simp [Value.ownBlock] at hk
 ·simp [Value.ownBlock] at hk
  subst hk
  exact ⟨hg,(Array.getElem?_eq_some_iff.1 hh).1⟩
theorem OVp.stay {S:Nat→Prop} (h:OVp w B v ps) (ho:Only S w w') (hs:∀ k,v.ownBlock=some k→¬S k):OVp w' B v ps:=by
 refine ⟨⟨h.1.1,?_⟩,h.2⟩
 rcases h.1.2 with h' | ⟨g,cap,cur,rfl,hg,hh,r⟩
 ·exact .inl h'
 ·exact .inr ⟨g,cap,cur,rfl,hg,(ho.block g (Array.getElem?_eq_some_iff.1 hh).1 (hs g rfl)).trans hh,r⟩
theorem OVp.below (h:OVp w B v ps) (hb:Below w.heap.size w w'):OVp w' B v ps:=h.stay (Only.ofBelow (S:=fun _=>False) hb nl) (by simp)
theorem OVp.weak {B':Nat} (h:OVp w B v ps) (hB:B'≤B):OVp w B' v ps:=by
 refine ⟨⟨h.1.1,?_⟩,h.2⟩
 rcases h.1.2 with h' | ⟨g,cap,cur,h',hg,r⟩
 ·exact .inl h'
 ·exact .inr ⟨g,cap,cur,h',by omega,r⟩
theorem OwP.lt (h:OwP w B g cap ps):B≤g∧g<w.heap.size:=OVp.blk h rfl
theorem OwP.cell (h:OwP w B g cap ps) (i:Nat) (hi:i<ps.length):w.cell? ⟨g,i*2,none⟩=some (.int .i64 (ps.getD i dp).1)∧w.cell? ⟨g,i*2+1,none⟩=some (.int .i64 (ps.getD i dp).2):=by
 obtain ⟨f0,f1⟩:=flatP_get ps i hi
 exact ⟨by rw [h.1.cellAt (i*2) (by omega),f0],by rw [h.1.cellAt (i*2+1) (by omega),f1]⟩
theorem OwP.pls (h:OwP w B g cap ps):Pls w (some ⟨g,0,none⟩) ps:=⟨h.2,fun _=>⟨g,0,rfl,h.lt.2,fun i hi=>by rw [Nat.zero_add];exact h.cell i hi⟩⟩
theorem OwP.frozen (h:OwP w B g cap ps) (i:Nat):w.frozen? ⟨g,i,none⟩=false:=h.1.frozenAt i
theorem OwP.store (h:OwP w B g cap ps) (k:Nat) (hk:k<ps.length) (p:Int × Int) (hr:rP p):OwP ((w.setCell ⟨g,k*2,none⟩ (.int .i64 p.1)).setCell ⟨g,k*2+1,none⟩ (.int .i64 p.2)) B g cap (ps.set k p):=by
 have r1:=(h.1.stored (k*2) (.int .i64 p.1)).1
 have r2:=(r1.stored (k*2+1) (.int .i64 p.2)).1
 rw [flatP_set p ps k hk] at r2
 refine ⟨by rw [List.length_set];exact r2,?_⟩
 intro t ht
 rcases List.mem_or_eq_of_mem_set ht with ht | rfl
 ·exact h.2 t ht
 ·exact hr
theorem OwP.other (h:OwP w B g cap ps) {p:Addr} (hp:p.block≠g) (u:Value):OwP (w.setCell p u) B g cap ps:=
 OVp.stay h ((Only.refl (fun b=>b=p.block) w).setCell (.inl rfl) u) (fun k hk e=>by
  have:g=k:=by simpa [Value.ownBlock] using hk
  exact hp (by rw [this];exact e.symm))
def MinP (w:World) (B U:Nat) (a:Option Addr) (cap:Nat) (ps:List (Int × Int)):Prop:=
 (a=none∧ps=[]∧cap=0)∨∃ g,a=some ⟨g,0,none⟩∧B≤g∧g<U∧OwP w B g cap ps
variable {a : Option Addr} {U c : Nat}
theorem MinP.pls (h:MinP w B U a cap ps):Pls w a ps:=by
 rcases h with ⟨rfl,rfl,rfl⟩ | ⟨g,rfl,_,_,h⟩
 ·exact ⟨by simp,by simp⟩
 ·exact h.pls
theorem MinP.only {S:Nat→Prop} (h:MinP w B U a cap ps) (ho:Only S w w') (hs:∀ k,B≤k→k<U→¬S k):MinP w' B U a cap ps:=by
 rcases h with h | ⟨g,rfl,h1,h2,h⟩
 ·exact .inl h
 ·exact .inr ⟨g,rfl,h1,h2,OVp.stay h ho (fun k hk=>by
   have:g=k:=by simpa [Value.ownBlock] using hk
   subst this
   exact hs g h1 h2)⟩
theorem MinP.mono {B' U':Nat} (h:MinP w B U a cap ps) (h1:B'≤B) (h2:U≤U'):MinP w B' U' a cap ps:=by
 rcases h with h | ⟨g,rfl,g1,g2,h⟩
 ·exact .inl h
 ·exact .inr ⟨g,rfl,by omega,by omega,OVp.weak h h1⟩
end
theorem Tryz.infoPl :(Tryz.prog.info? 127).map (fun i=>(i.zero,i.size,i.bytes))=some (some (.agg #[.int .i64 0,.int .i64 0]),2,16):=by kernel_rfl
theorem made_places (n:Nat):(madeCells (Value.agg #[.int .i64 0,.int .i64 0]).cells (n*2)).toList=(List.replicate n dp).flatMap pcs:=by
 apply List.ext_getElem?
 intro i
 by_cases hi:i<n*2
 ·have hd:i / 2<(List.replicate n dp).length:=by simp;omega
  have hg:(List.replicate n dp).getD (i / 2) dp=dp:=by
   rw [List.getD_eq_getElem?_getD,List.getElem?_replicate];split <;> rfl
  obtain ⟨f0,f1⟩:=flatP_get (List.replicate n dp) (i / 2) hd
  rw [hg] at f0 f1
  simp only [madeCells,Array.toList_map,Array.toList_range,List.getElem?_map,List.getElem?_range hi,Option.map_some]
  have h3:i % 2=0∨i % 2=1:=by omega
  rcases h3 with h3 | h3
  ·rw [show i / 2*2=i from by omega] at f0
   rw [f0]
   simp [Value.cells,h3,dp]
  ·rw [show i / 2*2+1=i from by omega] at f1
   rw [f1]
   simp [Value.cells,h3,dp]
 ·rw [List.getElem?_eq_none (by simp [madeCells];omega),List.getElem?_eq_none (by rw [flatP_len];simp;omega)]
theorem rP_dp :rP dp:=by unfold rP dp;simp
theorem OwP.made {w1:World} {B g n:Nat} (h:w1.ownsRow B 127 2 (.slice (some ⟨g,0,none⟩) n n) n (madeCells (Value.agg #[.int .i64 0,.int .i64 0]).cells (n*2)).toList):OwP w1 B g n (List.replicate n dp):=by
 refine ⟨?_,fun p hp=>?_⟩
 ·rw [made_places] at h
  simpa using h
 ·rw [(List.mem_replicate.1 hp).2]
  exact rP_dp
end Go.Proofs.YtaibkchbkedjnaaGreatDoor
