/-
  The row of the table for a number, what 'make' lays of numbers, and how rows of numbers stay.
-/
import Derived.Test.YtaibkchbkedjnaaGreatDoorElC
import Derived.Deep.RegionHeld3
namespace Go.Proofs.YtaibkchbkedjnaaGreatDoor
open Go.RowKit
set_option linter.unusedVariables false

theorem getD_replE (n k:Nat):(List.replicate n de).getD k de=de:=by
 rw [List.getD_eq_getElem?_getD,List.getElem?_replicate];split <;> rfl
theorem made_secs (n:Nat):(madeCells (Value.slice none 0 0).cells (n * 1)).toList=(List.replicate n de).flatMap (El.cells false):=by
 apply List.ext_getElem?
 intro i
 by_cases hi:i<n * 1
 ·have e:=eflat_get false (List.replicate n de) i (by simp;omega) 0 (by simp [eW])
  rw [getD_replE] at e
  simp only [eW,cond_false,Nat.mul_one,Nat.add_zero] at e
  rw [e]
  simp only [madeCells,Array.toList_map,Array.toList_range,List.getElem?_map,List.getElem?_range hi,Option.map_some]
  simp [Value.cells,de,El.cells,Nat.mod_one]
 ·rw [List.getElem?_eq_none (by simp [madeCells];omega),List.getElem?_eq_none (by rw [eflat_len];simp [eW];omega)]
theorem made_pens (n:Nat):(madeCells (Value.agg #[.int .i64 0,.slice none 0 0]).cells (n * 2)).toList=(List.replicate n de).flatMap (El.cells true):=by
 apply List.ext_getElem?
 intro i
 by_cases hi:i<n * 2
 ·have e:=eflat_get true (List.replicate n de) (i / 2) (by simp;omega) (i % 2) (by simp [eW];omega)
  rw [getD_replE] at e
  simp only [eW,cond_true] at e
  rw [show i / 2 * 2+i % 2=i from by omega] at e
  rw [e]
  simp only [madeCells,Array.toList_map,Array.toList_range,List.getElem?_map,List.getElem?_range hi,Option.map_some]
  have h2:i % 2=0∨i % 2=1:=by omega
  rcases h2 with h2 | h2 <;> simp [Value.cells,de,El.cells,h2]
 ·rw [List.getElem?_eq_none (by simp [madeCells];omega),List.getElem?_eq_none (by rw [eflat_len];simp [eW];omega)]

theorem getD_app_replE (bs:List El) (m i:Nat) (h:bs.length≤i):(bs++List.replicate m de).getD i de=de:=by
 rw [List.getD_eq_getElem?_getD,List.getElem?_append_right h,List.getElem?_replicate];split <;> rfl
theorem set_app_replE (bs:List El) (m k:Nat) (s:El) (h:bs.length=k) (hk:0<m):(bs++List.replicate m de).set k s=(bs++[s])++List.replicate (m - 1) de:=by
 rw [List.set_append_right _ _ (by omega),h,Nat.sub_self,show m=(m - 1)+1 from by omega,List.replicate_succ,List.set_cons_zero,List.append_assoc]
 rfl
theorem ctE_take_succ (ss:List El) (k:Nat) (h:k<ss.length):(ss.take (k+1)).map El.ct=(ss.take k).map El.ct++[(ss.getD k de).ct]:=by
 rw [List.take_succ_eq_append_getElem h,List.map_append]
 simp [List.getD_eq_getElem?_getD,List.getElem?_eq_getElem h]
theorem rE_snoc {p:Bool} {bs:List El} {e:El} (h:∀ x ∈ bs,rE p x) (he:rE p e):∀ x ∈ bs++[e],rE p x:=by
 intro x hx
 rcases List.mem_append.1 hx with hx | hx
 ·exact h x hx
 ·simp at hx;subst hx;exact he
theorem Deep.lt {w:World} {B:Nat} {es:List El} (h:Deep w B es):∀ x ∈ es,∀ k,rowOf x.a k→k<w.heap.size:=fun x hx k hk=>((h.mine x hx).rowE hk).2

theorem Deep.app {w:World} {B U:Nat} {es fs:List El} (h:Deep w B es) (h2:Deep w U fs) (hU:∀ x ∈ es,∀ k,rowOf x.a k→k<U) (hB:B≤U):Deep w B (es++fs):=by
 refine ⟨?_,?_⟩
 ·intro x hx
  rcases List.mem_append.1 hx with hx | hx
  ·exact h.mine x hx
  ·exact (h2.mine x hx).mono hB (Nat.le_refl _)
 ·rw [List.map_append,List.pairwise_append]
  refine ⟨h.apart,h2.apart,?_⟩
  intro x hx y hy k hk hk2
  obtain ⟨z,hz,rfl⟩:=List.mem_map.1 hx
  obtain ⟨z2,hz2,rfl⟩:=List.mem_map.1 hy
  have h3:=hU z hz k hk
  have h4:=((h2.mine z2 hz2).rowE hk2).1
  omega

def elets :List El→Nat
 | []=>0
 | s :: ss=>s.ls.length+elets ss
theorem elets_app (a b:List El):elets (a++b)=elets a+elets b:=by
 induction a with
 | nil=>simp [elets]
 | cons s a ih=>simp only [List.cons_append,elets,ih];omega
theorem elets_take_succ (ss:List El) (k:Nat) (h:k<ss.length):elets (ss.take (k+1))=elets (ss.take k)+(ss.getD k de).ls.length:=by
 rw [List.take_succ_eq_append_getElem h,elets_app]
 simp [elets,List.getD_eq_getElem?_getD,List.getElem?_eq_getElem h]
theorem elets_take_le (ss:List El) (k:Nat):elets (ss.take k)≤elets ss:=by
 have h1:=elets_app (ss.take k) (ss.drop k)
 rw [List.take_append_drop] at h1
 omega
theorem elets_mem {s:El} {ss:List El} (h:s ∈ ss):s.ls.length≤elets ss:=by
 induction ss with
 | nil=>cases h
 | cons x ss ih=>
  rcases List.mem_cons.1 h with rfl | h
  ·simp only [elets];omega
  ·have:=ih h;simp only [elets];omega
theorem elets_ct (ss ts:List El) (h:ss.map El.ct=ts.map El.ct):elets ss=elets ts:=by
 induction ss generalizing ts with
 | nil=>cases ts with
  | nil=>rfl
  | cons t ts=>simp at h
 | cons s ss ih=>cases ts with
  | nil=>simp at h
  | cons t ts=>
   simp only [List.map_cons,List.cons.injEq] at h
   have h1:s.ls=t.ls:=by have:=congrArg Prod.snd h.1;exact this
   simp only [elets,h1,ih ts h.2]
structure OVt (w:World) (B:Nat) (v:Value) (es:List El):Prop where
 own:w.ownsRow B 113 (eW true) v es.length (es.flatMap (El.cells true))
section
variable {w w' : World} {B : Nat} {v : Value} {es : List El}
theorem OVt.form (h:OVt w B v es):∃ (a:Option Addr) (c:Nat),v=.slice a es.length c:=by
 rcases h.own.2 with ⟨rfl,h0⟩ | ⟨g,cap,cur,rfl,_⟩
 ·exact ⟨none,0,by rw [h0]⟩
 ·exact ⟨_,_,rfl⟩
theorem OVt.blk (h:OVt w B v es) {k:Nat} (hk:v.ownBlock=some k):B≤k∧k<w.heap.size:=by
 rcases h.own.2 with ⟨rfl,h0⟩ | ⟨g,cap,cur,rfl,hg,hh,_⟩
 ·simp [Value.ownBlock] at hk
 ·simp [Value.ownBlock] at hk
  subst hk
  exact ⟨hg,(Array.getElem?_eq_some_iff.1 hh).1⟩
theorem OVt.stay {S:Nat→Prop} (h:OVt w B v es) (ho:Only S w w') (hs:∀ k,v.ownBlock=some k→¬S k):OVt w' B v es:=by
 refine ⟨⟨h.own.1,?_⟩⟩
 rcases h.own.2 with h' | ⟨g,cap,cur,rfl,hg,hh,r⟩
 ·exact .inl h'
 ·exact .inr ⟨g,cap,cur,rfl,hg,(ho.block g (Array.getElem?_eq_some_iff.1 hh).1 (hs g rfl)).trans hh,r⟩
theorem OVt.below (h:OVt w B v es) (hb:Below w.heap.size w w'):OVt w' B v es:=h.stay (Only.ofBelow (S:=fun _=>False) hb (Nat.le_refl _)) (by simp)
theorem OVt.weak {B':Nat} (h:OVt w B v es) (hB:B'≤B):OVt w B' v es:=by
 refine ⟨⟨h.own.1,?_⟩⟩
 rcases h.own.2 with h' | ⟨g,cap,cur,h',hg,r⟩
 ·exact .inl h'
 ·exact .inr ⟨g,cap,cur,h',by omega,r⟩
theorem OVt.cell (h:OVt w B v es) (k:Nat) (hk:k<es.length):∃ g cap,v=.slice (some ⟨g,0,none⟩) es.length cap∧B≤g∧g<w.heap.size∧(∀ i,w.frozen? ⟨g,i,none⟩=false)∧∀ i,i<es.length→LieE true w g (i * eW true) (es.getD i de):=by
 rcases h.own.2 with ⟨_,h0⟩ | ⟨g,cap,cur,rfl,hg,hh,r⟩
 ·omega
 ·refine ⟨g,cap,rfl,hg,(Array.getElem?_eq_some_iff.1 hh).1,fun i=>h.own.frozenAt i,fun i hi=>?_⟩
  have hp:i * eW true+eW true≤es.length * eW true:=by rw [show i * eW true+eW true=(i+1) * eW true from by rw [Nat.add_mul,Nat.one_mul]];exact Nat.mul_le_mul_right _ hi
  refine ⟨fun hp1=>?_,?_⟩
  ·have e0:=eflat_get true es i hi 0 (by simp [eW])
   rw [Nat.add_zero] at e0
   rw [h.own.cellAt (i * eW true) (by simp [eW] at hp ⊢;omega),e0]
   rfl
  ·rw [h.own.cellAt (i * eW true+eO true) (by simp [eW,eO] at hp ⊢;omega),eflat_get true es i hi (eO true) (by simp [eW,eO])]
   rfl
theorem OVt.els {a:Option Addr} {n c:Nat} (h:OVt w B (.slice a n c) es) (hr:∀ e ∈ es,rE true e∧Byt w e.a e.ls):Els true w a es:=by
 refine ⟨hr,fun hz=>?_⟩
 obtain ⟨g,cap,e,h1,h2,_,h4⟩:=h.cell 0 hz
 simp at e
 obtain ⟨rfl,rfl,rfl⟩:=e
 exact ⟨g,0,rfl,h2,fun i hi=>by rw [Nat.zero_add];exact h4 i hi⟩
theorem OVt.store (h:OVt w B v es) (k:Nat) (hk:k<es.length) (e:El) (j:Nat) (hj:j<eW true) (u:Value) (he:((es.getD k de).cells true).set j u=e.cells true) {g:Nat} (hg:v.ownBlock=some g):OVt (w.setCell ⟨g,k * eW true+j,none⟩ u) B v (es.set k e):=by
 obtain ⟨a,c,rfl⟩:=h.form
 have hv:∃ g',a=some ⟨g',0,none⟩:=by
  obtain ⟨g',cap,e,_⟩:=h.cell k hk
  simp at e
  exact ⟨g',e.1⟩
 obtain ⟨g',rfl⟩:=hv
 obtain rfl:g'=g:=by simpa [Value.ownBlock] using hg
 have r:=(h.own.stored (k * eW true+j) u).1
 rw [eflat_set true es e j hj u k hk he] at r
 exact ⟨by rw [List.length_set];exact r⟩
theorem OVt.other (h:OVt w B v es) {a:Option Addr} {B' U c:Nat} {zs:List Int} (hm:Mine w B' U a c zs) {g:Nat} (hg:v.ownBlock=some g):¬rowOf a g:=by
 rintro ⟨x,hx,hxg⟩
 rcases hm with ⟨h',_⟩ | ⟨g',h',g1,g2,ho⟩
 ·rw [h'] at hx;cases hx
 ·rw [h'] at hx
  simp at hx
  rw [←hx] at hxg
  simp at hxg
  subst hxg
  rcases ho.1.2 with ⟨e,_⟩ | ⟨k,cap1,cur1,e,_,hh,_⟩
  ·simp at e
  ·obtain rfl:g'=k:=by simp at e;exact e.1
   rcases h.own.2 with ⟨e2,_⟩ | ⟨k2,cap2,cur2,e2,_,hh2,_⟩
   ·subst e2;simp [Value.ownBlock] at hg
   ·subst e2
    obtain rfl:k2=g':=by simpa [Value.ownBlock] using hg
    rw [hh] at hh2
    simp at hh2
end
theorem Tryz.infoItem :(Tryz.prog.info? 113).map (fun i=>(i.zero,i.size,i.bytes))=some (some (.agg #[.int .i64 0,.slice none 0 0]),2,32):=by kernel_rfl

structure CopT (w:World) (B:Nat) (v:Value) (ts ss:List El):Prop where
 ct:ts.map El.ct=ss.map El.ct
 row:OVt w B v ts
 deep:Deep w B ts
 rng:∀ e ∈ ts,rE true e
theorem CopT.stay {S:Nat→Prop} {w w':World} {B:Nat} {v:Value} {ts ss:List El} (h:CopT w B v ts ss) (ho:Only S w w') (hs:∀ k,B≤k→¬S k):CopT w' B v ts ss:=
 ⟨h.ct,h.row.stay ho (fun k hk=>hs k (h.row.blk hk).1),h.deep.stay ho (fun e he k hk=>hs k ((h.deep.mine e he).rowE hk).1),h.rng⟩
theorem CopT.weak {w:World} {B B':Nat} {v:Value} {ts ss:List El} (h:CopT w B v ts ss) (hB:B'≤B):CopT w B' v ts ss:=⟨h.ct,h.row.weak hB,h.deep.weak hB,h.rng⟩
theorem Mine.capM {w:World} {B U:Nat} {a:Option Addr} {c:Nat} {zs:List Int} (h:Mine w B U a c zs):zs.length≤c:=by
 rcases h with ⟨-,rfl,rfl⟩ | ⟨g,-,-,-,h⟩
 ·simp
 ·rcases h.1.2 with ⟨e,_⟩ | ⟨g',cap',cur,e,-,-,r,-⟩
  ·simp at e
  ·simp at e
   omega
structure ItI (w:World) (a:Option Addr) (es:List El):Prop where
 els:Els true w a es
 cap:∀ e ∈ es,e.ls.length≤e.c
theorem ItI.below {w w':World} {a:Option Addr} {es:List El} {B:Nat} (h:ItI w a es) (hb:Below B w w') (hB:w.heap.size≤B):ItI w' a es:=⟨h.els.below hb hB,h.cap⟩
theorem CopT.its {w:World} {B n c:Nat} {a:Option Addr} {ts ss:List El} (h:CopT w B (.slice a n c) ts ss):ItI w a ts:=
 ⟨h.row.els (fun e he=>⟨h.rng e he,h.deep.byt e he⟩),fun e he=>(h.deep.mine e he).capM⟩

structure Box3 (W:World) (b:Nat) (x y z:Value):Prop where
 c0:W.cell? ⟨b,0,none⟩=some x
 c1:W.cell? ⟨b,1,none⟩=some y
 c2:W.cell? ⟨b,2,none⟩=some z
 f0:W.frozen? ⟨b,0,none⟩=false
 f1:W.frozen? ⟨b,1,none⟩=false
 f2:W.frozen? ⟨b,2,none⟩=false
 lt:b<W.heap.size
theorem Box3.new (w:World) (x y z:Value) (T:TypeId):Box3 (w.alloc (Obj.cells #[x,y,z] T)) w.heap.size x y z:=⟨by simp,by simp,by simp,by simp,by simp,by simp,by simp⟩
theorem Box3.keep {W W':World} {b B:Nat} {x y z:Value} (h:Box3 W b x y z) (hb:Below B W W') (hB:b<B):Box3 W' b x y z:=
 ⟨Go.Proofs.YtaibkchbkedjnaaGreatDoor.keep hb hB h.c0,Go.Proofs.YtaibkchbkedjnaaGreatDoor.keep hb hB h.c1,Go.Proofs.YtaibkchbkedjnaaGreatDoor.keep hb hB h.c2,(hb.frozen (p:=⟨b,0,none⟩) hB).trans h.f0,(hb.frozen (p:=⟨b,1,none⟩) hB).trans h.f1,(hb.frozen (p:=⟨b,2,none⟩) hB).trans h.f2,Nat.lt_of_lt_of_le h.lt hb.size⟩
theorem Box3.step {W W':World} {b:Nat} {x y z:Value} (h:Box3 W b x y z) (hb:Below W.heap.size W W'):Box3 W' b x y z:=h.keep hb h.lt
structure FewI (es:List El):Prop where
 n:es.length≤1048576
 l:∀ s ∈ es,s.ls.length≤1048576
 sum:es.length+elets es≤1048576
theorem FewI.mk' {es:List El} (h:es.length+elets es≤1048576):FewI es:=⟨by omega,fun s hs=>by have:=elets_mem hs;omega,h⟩
set_option maxHeartbeats 800000 in
theorem eqByteS_any (a b:Option Addr) (ca cb:Nat) (xs ys:List Int) (w:World) (ha:Byt w a xs) (hb:Byt w b ys) (hx:xs.length≤281474976710656) (hy:ys.length≤281474976710656) :
  Calls Tryz.prog 14 #[.slice a xs.length ca,.slice b ys.length cb] w fun e w'=>e=.returned (.bool (decide (xs=ys)))∧∃ n,w'=w.drewN n:=by
 by_cases hl:xs.length=ys.length
 ·generalize hlx:xs.length=n at *
  have HX:Hid (xs.length=n):=hlx
  have HY:Hid (ys.length=n):=hl.symm
  rw [←hl]
  have hnn:((n:Int) != (n:Int))=false:=by simp
  clear hlx hl hy
  go_enter Tryz.func14,Tryz.ntmps14
  go_wp2
  go_loopw [5] (fun i wr=>∃ k m:Nat,k≤n∧i=.int .i64 k∧wr=w.drewN m∧xs.take k=ys.take k) (fun i _=>n - (intOf i).toNat)
  case atStart=>exact ⟨0,0,Nat.zero_le _,rfl,rfl,by simp⟩
  case round=>
   obtain ⟨k,m,hk,rfl,rfl,htk⟩:=hrel
   have HT:Hid (xs.take k=ys.take k):=htk
   clear htk
   by_cases hlt:k<n
   ·obtain ⟨b1,o1,rfl,hb1,hc1⟩:=ha.len_pos k (by rw [HX.out];exact hlt)
    obtain ⟨b2,o2,rfl,hb2,hc2⟩:=hb.len_pos k (by rw [HY.out];exact hlt)
    have hs1:=hc1 k (by rw [HX.out];exact hlt)
    have hs2:=hc2 k (by rw [HY.out];exact hlt)
    have g1:=getD_rng ha.1 k
    have g2:=getD_rng hb.1 k
    clear hc1 hc2 ha hb
    generalize hx1:xs.getD k 0=x1 at *
    generalize hy1:ys.getD k 0=y1 at *
    have HX1:Hid (xs.getD k 0=x1):=hx1
    have HY1:Hid (ys.getD k 0=y1):=hy1
    clear hx1 hy1
    by_cases hxy:x1=y1
    ·subst hxy
     have hq:(x1 != x1)=false:=by simp
     have HT':Hid (xs.take (k+1)=ys.take (k+1)):=take_eq_succ HT.out (by rw [HX.out];exact hlt) (by rw [HY.out];exact hlt) (by rw [HX1.out,HY1.out])
     go_wp2
     go_quiet (fail)
     go_wp2
     go_roundw
     case rel=>exact ⟨k+1,_,by omega,by go_num,rfl,HT'.out⟩
     case measure=>simp [intOf];omega
    ·have hq:(x1 != y1)=true:=by rw [bne_iff_ne];exact hxy
     have HN:Hid (decide (xs=ys)=false):=by
      have:xs≠ys:=ne_of_getD (k:=k) (by rw [HX1.out,HY1.out];exact hxy)
      simpa [Hid] using this
     clear hxy
     go_wp2
     go_quiet (fail)
     go_wp2
     go_ret
     exact ⟨by rw [HN.out];rfl,_,World.drewN_drewN ..⟩
   ·have HE:Hid (decide (xs=ys)=true):=by
     have h1:=HT.out
     rw [List.take_of_length_le (by rw [HX.out];omega),List.take_of_length_le (by rw [HY.out];omega)] at h1
     simpa [Hid] using h1
    go_wp2
    go_ret
    exact ⟨by rw [HE.out];rfl,_,rfl⟩
 ·have hne:decide (xs=ys)=false:=by simp;intro h;exact hl (by rw [h])
  have hl':((xs.length:Int) != (ys.length:Int))=true:=by rw [bne_iff_ne];omega
  rw [hne]
  go_enter Tryz.func14,Tryz.ntmps14
  go_wp2
  go_ret
  exact ⟨rfl,0,rfl⟩

theorem eqByteS_yes (a b:Option Addr) (ca cb:Nat) (xs:List Int) (w:World) (ha:Byt w a xs) (hb:Byt w b xs) (hx:xs.length≤281474976710656) :
  Calls Tryz.prog 14 #[.slice a xs.length ca,.slice b xs.length cb] w fun e w'=>e=.returned (.bool true)∧∃ n,w'=w.drewN n:=by
 refine (eqByteS_any a b ca cb xs xs w ha hb hx hx).mono ?_
 rintro e w' ⟨rfl,h⟩
 exact ⟨by simp,h⟩

theorem below_dI {w W:World} {B:Nat} (h:Below B w W) (n:Nat):Below B w (W.drewN n):=⟨h.os,h.tape,h.output,h.size,h.block⟩

set_option maxHeartbeats 800000 in
theorem eqItem_yes (a b:Option Addr) (ca cb:Nat) (xs:List Int) (n:Int) (w:World) (ha:Byt w a xs) (hb:Byt w b xs) (hx:xs.length≤281474976710656) :
  Calls Tryz.prog 144 #[.agg #[.int .i64 n,.slice a xs.length ca],.agg #[.int .i64 n,.slice b xs.length cb]] w fun e w'=>e=.returned (.bool true)∧Below w.heap.size w w':=by
 have hw:Below w.heap.size w ((w.alloc (Obj.cells #[Value.int IntKind.i64 n,Value.slice a xs.length ca] 113)).alloc (Obj.cells #[Value.int IntKind.i64 n,Value.slice b xs.length cb] 113)):=((Below.refl _ _).alloc (Nat.le_refl _) _).alloc (by simp) _
 have hnn:(n != n)=false:=by simp
 go_enter Tryz.func144,Tryz.ntmps144
 go_wp2_with fail
 refine (eqByteS_yes a b ca cb xs _ (ha.below hw (Nat.le_refl _)) (hb.below hw (Nat.le_refl _)) hx).mono ?_
 rintro e w1 ⟨rfl,nq,rfl⟩
 go_wp2
 go_ret
 exact ⟨rfl,below_dI hw _⟩

set_option maxHeartbeats 1600000 in
theorem eqItemS_yes (a b:Option Addr) (ca cb:Nat) (ss ts:List El) (w:World) (ha:Els true w a ss) (hb:Els true w b ts) (hct:ss.map El.ct=ts.map El.ct) (hx:ss.length≤281474976710656) (hxl:∀ s ∈ ss,s.ls.length≤281474976710656) :
  Calls Tryz.prog 100 #[.slice a ss.length ca,.slice b ss.length cb] w fun e w'=>e=.returned (.bool true)∧Below w.heap.size w w':=by
 have htl:ts.length=ss.length:=by have:=congrArg List.length hct;simpa using this.symm
 have HA:Hid (Els true w a ss):=ha
 have HB:Hid (Els true w b ts):=hb
 have HCT:Hid (ss.map El.ct=ts.map El.ct∧ts.length=ss.length):=⟨hct,htl⟩
 have HXL:Hid (∀ s ∈ ss,s.ls.length≤281474976710656):=hxl
 clear ha hb hct htl hxl
 generalize hlen:ss.length=n at *
 have HL:Hid (ss.length=n∧True):=⟨hlen,trivial⟩
 clear hlen
 have hnn:((n:Int) != (n:Int))=false:=by simp
 go_enter Tryz.func100,Tryz.ntmps100
 go_wp2
 go_loopw [5] (fun i wr=>∃ k:Nat,k≤n∧i=.int .i64 k∧Below w.heap.size w wr) (fun i _=>n - (intOf i).toNat)
 case atStart=>exact ⟨0,Nat.zero_le _,rfl,Below.refl _ _⟩
 case round=>
  obtain ⟨k,hk,rfl,hbel⟩:=hrel
  by_cases hlt:k<n
  ·obtain ⟨b1,o1,rfl,hb1,c0,c1,hy1,-⟩:=(HA.out.below hbel (Nat.le_refl _)).pen k (by rw [HL.out.1];exact hlt)
   obtain ⟨b2,o2,rfl,hb2,d0,d1,hy2,-⟩:=(HB.out.below hbel (Nat.le_refl _)).pen k (by rw [HCT.out.2];exact hlt)
   have hml:=HXL.out _ (getD_memE (k:=k) (by rw [HL.out.1];exact hlt))
   have hce:=ctE_get HCT.out.1 k
   generalize ss.getD k de=s at *
   generalize ts.getD k de=t at *
   obtain ⟨sn,sa,sc,sl⟩:=s
   obtain ⟨tn,ta,tc,tl⟩:=t
   simp only [El.ct,Prod.mk.injEq] at hce
   obtain ⟨rfl,rfl⟩:=hce
   simp only at c0 c1 d0 d1 hy1 hy2 hml
   have HY1:Hid (Byt wr sa sl):=hy1
   have HY2:Hid (Byt wr ta sl):=hy2
   have HML:Hid (sl.length≤281474976710656):=hml
   have HC:Hid (wr.cell? ⟨b1,o1+k * 2,none⟩=some (.int .i64 sn)∧wr.cell? ⟨b1,o1+k * 2+1,none⟩=some (.slice sa sl.length sc)∧wr.cell? ⟨b2,o2+k * 2,none⟩=some (.int .i64 sn)∧wr.cell? ⟨b2,o2+k * 2+1,none⟩=some (.slice ta sl.length tc)):=⟨c0,c1,d0,d1⟩
   clear hy1 hy2 hml c0 c1 d0 d1
   go_wp2_with fail
   go_region_held3 (fun W=>W.cell? ⟨b1,o1+k * 2,none⟩=some (.int .i64 sn)∧W.cell? ⟨b1,o1+k * 2+1,none⟩=some (.slice sa sl.length sc)∧W.cell? ⟨b2,o2+k * 2,none⟩=some (.int .i64 sn)∧W.cell? ⟨b2,o2+k * 2+1,none⟩=some (.slice ta sl.length tc))
    (first | exact HC.out | exact HC8.out)
    (first
     | (go_at_call 144;refine (eqItem_yes sa ta sc tc sl sn _ (by exact HY1.out) (by exact HY2.out) HML.out).mono ?_;rintro e w8 ⟨rfl,hb8'⟩;have HB8:Hid (Below w.heap.size w w8):=hbel.trans ((Below.drewS hb8').mono hbel.size);have HC8:Hid (w8.cell? ⟨b1,o1+k * 2,none⟩=some (.int .i64 sn)∧w8.cell? ⟨b1,o1+k * 2+1,none⟩=some (.slice sa sl.length sc)∧w8.cell? ⟨b2,o2+k * 2,none⟩=some (.int .i64 sn)∧w8.cell? ⟨b2,o2+k * 2+1,none⟩=some (.slice ta sl.length tc)):=⟨keep (Below.drewS hb8') hb1 HC.out.1,keep (Below.drewS hb8') hb1 HC.out.2.1,keep (Below.drewS hb8') hb2 HC.out.2.2.1,keep (Below.drewS hb8') hb2 HC.out.2.2.2⟩;clear hb8'))
   clear HC HC8
   go_wp2
   go_roundw
   case rel=>exact ⟨k+1,by omega,by go_num,HB8.out⟩
   case measure=>simp [intOf];omega
  ·have hkn:k=n:=by omega
   subst hkn
   go_wp2
   go_ret
   exact ⟨rfl,hbel⟩

set_option maxHeartbeats 1600000 in
theorem eqPack_yes (E O:Int) (a b:Option Addr) (ca cb:Nat) (ss ts:List El) (w:World) (ha:Els true w a ss) (hb:Els true w b ts) (hct:ss.map El.ct=ts.map El.ct) (hx:FewI ss) :
  Calls Tryz.prog 57 #[.agg #[.int .i64 E,.int .i64 O,.slice a ss.length ca],.agg #[.int .i64 E,.int .i64 O,.slice b ss.length cb]] w fun e w'=>e=.returned (.bool true)∧Below w.heap.size w w':=by
 have hw:Below w.heap.size w ((w.alloc (Obj.cells #[Value.int IntKind.i64 E,Value.int IntKind.i64 O,Value.slice a ss.length ca] 47)).alloc (Obj.cells #[Value.int IntKind.i64 E,Value.int IntKind.i64 O,Value.slice b ss.length cb] 47)):=((Below.refl _ _).alloc (Nat.le_refl _) _).alloc (by simp) _
 have HE:=eqItemS_yes a b ca cb ss ts _ (ha.below hw (Nat.le_refl _)) (hb.below hw (Nat.le_refl _)) hct (by have:=hx.n;omega) (fun s hs=>by have:=hx.l s hs;omega)
 have hE:(E != E)=false:=by simp
 have hO:(O != O)=false:=by simp
 clear ha hb hct hx
 go_enter Tryz.func57,Tryz.ntmps57
 go_wp2_with fail
 refine HE.mono ?_
 clear HE
 rintro e w1 ⟨rfl,hb1⟩
 have HB1:Hid (Below w.heap.size w w1):=hw.trans (hb1.mono (by simp;omega))
 clear hw hb1
 go_wp2
 go_ret
 exact ⟨rfl,HB1.out⟩
def Ins (w:World) (a:Option Addr) (zs:List Int):Prop:=
 (∀ z ∈ zs,-9223372036854775808≤z∧z≤9223372036854775807)∧(0<zs.length→∃ b off,a=some ⟨b,off,none⟩∧b<w.heap.size∧∀ i,i<zs.length→w.cell? ⟨b,off+i,none⟩=some (.int .i64 (zs.getD i 0)))

def OwI (w:World) (B g cap:Nat) (zs:List Int):Prop:=
 w.ownsRow B 3 1 (.slice (some ⟨g,0,none⟩) zs.length cap) zs.length (zs.map (Value.int .i64))∧∀ z ∈ zs,-9223372036854775808≤z∧z≤9223372036854775807

theorem OwI.lt {w:World} {B g cap:Nat} {zs:List Int} (h:OwI w B g cap zs):B≤g∧g<w.heap.size:=h.1.lt g rfl

theorem OwI.cell {w:World} {B g cap:Nat} {zs:List Int} (h:OwI w B g cap zs) (i:Nat) (hi:i<zs.length):w.cell? ⟨g,i,none⟩=some (.int .i64 (zs.getD i 0)):=by
 rw [h.1.cellAt i (by omega)]
 simp [List.getElem?_eq_getElem hi]

theorem OwI.byt {w:World} {B g cap:Nat} {zs:List Int} (h:OwI w B g cap zs):Ins w (some ⟨g,0,none⟩) zs:=
 ⟨h.2,fun _=>⟨g,0,rfl,h.lt.2,fun i hi=>by rw [Nat.zero_add];exact h.cell i hi⟩⟩

theorem Ins.below {w w':World} {a:Option Addr} {zs:List Int} {B:Nat} (h:Ins w a zs) (hb:Below B w w') (hB:w.heap.size≤B):Ins w' a zs:=by
 refine ⟨h.1,fun hz=>?_⟩
 obtain ⟨b,off,rfl,hlt,hc⟩:=h.2 hz
 refine ⟨b,off,rfl,Nat.lt_of_lt_of_le hlt hb.size,fun i hi=>?_⟩
 rw [hb.cell (p:=⟨b,off+i,none⟩) (Nat.lt_of_lt_of_le hlt hB)]
 exact hc i hi

theorem OwI.below {w w':World} {B B' g cap:Nat} {zs:List Int} (h:OwI w B g cap zs) (hb:Below B' w w') (hB:w.heap.size≤B'):OwI w' B g cap zs:=by
 refine ⟨⟨h.1.1,?_⟩,h.2⟩
 rcases h.1.2 with ⟨h',_⟩ | ⟨g',cap',cur,h',hg,hh,r⟩
 ·simp at h'
 ·refine .inr ⟨g',cap',cur,h',hg,?_,r⟩
  rw [hb.block g' (by have:=(Array.getElem?_eq_some_iff.1 hh).1;omega)]
  exact hh

theorem OwI.mono {w:World} {B B' g cap:Nat} {zs:List Int} (h:OwI w B g cap zs) (hB:B'≤B):OwI w B' g cap zs:=by
 refine ⟨⟨h.1.1,?_⟩,h.2⟩
 rcases h.1.2 with ⟨h',_⟩ | ⟨g',cap',cur,h',hg,r⟩
 ·simp at h'
 ·exact .inr ⟨g',cap',cur,h',by omega,r⟩

theorem Ins.len_pos {w:World} {a:Option Addr} {zs:List Int} (h:Ins w a zs) (i:Nat) (hi:i<zs.length):∃ b off,a=some ⟨b,off,none⟩∧b<w.heap.size∧∀ i,i<zs.length→w.cell? ⟨b,off+i,none⟩=some (.int .i64 (zs.getD i 0)):=h.2 (by omega)

theorem getD_rngI {zs:List Int} (h:∀ z ∈ zs,-9223372036854775808≤z∧z≤9223372036854775807) (i:Nat):-9223372036854775808≤zs.getD i 0∧zs.getD i 0≤9223372036854775807:=by
 rw [List.getD_eq_getElem?_getD]
 by_cases hi:i<zs.length
 ·rw [List.getElem?_eq_getElem hi];exact h _ (List.getElem_mem hi)
 ·rw [List.getElem?_eq_none (by omega)];simp

theorem OwI.store {w:World} {B g cap:Nat} {zs:List Int} (h:OwI w B g cap zs) (i:Nat) (z:Int) (hz:-9223372036854775808≤z∧z≤9223372036854775807):OwI (w.setCell ⟨g,i,none⟩ (.int .i64 z)) B g cap (zs.set i z):=by
 have:=(h.1.stored i (.int .i64 z)).1
 refine ⟨?_,?_⟩
 ·simpa [List.map_set] using this
 ·intro y hy
  rcases List.mem_or_eq_of_mem_set hy with hy | rfl
  ·exact h.2 y hy
  ·exact hz

theorem OwI.frozen {w:World} {B g cap:Nat} {zs:List Int} (h:OwI w B g cap zs) (i:Nat):w.frozen? ⟨g,i,none⟩=false:=h.1.frozenAt i

theorem OwI.drewN {w:World} {B g cap:Nat} {zs:List Int} (h:OwI w B g cap zs) (n:Nat):OwI (w.drewN n) B g cap zs:=h

theorem OwI.alloc {w:World} {B g cap:Nat} {zs:List Int} (h:OwI w B g cap zs) (ob:Obj):OwI (w.alloc ob) B g cap zs:=h.below ((Below.refl w.heap.size w).alloc (Nat.le_refl _) ob) (Nat.le_refl _)
theorem Tryz.infoI64 :(Tryz.prog.info? 3).map (fun i=>(i.zero,i.size,i.bytes))=some (some (.int .i64 0),1,8):=by kernel_rfl

theorem made_zeroI (n:Nat):(madeCells (Value.int .i64 0).cells (n * 1)).toList=(List.replicate n (0:Int)).map (Value.int .i64):=by
 simp only [madeCells,Value.cells,Nat.mul_one,Array.toList_map,Array.toList_range,List.map_replicate]
 rw [List.eq_replicate_iff]
 refine ⟨by simp,fun b hb=>?_⟩
 simp only [List.mem_map] at hb
 obtain ⟨x,_,rfl⟩:=hb
 simp [Nat.mod_one]



theorem OwI.only {S:Nat→Prop} {w w':World} {B g cap:Nat} {zs:List Int} (h:OwI w B g cap zs) (ho:Only S w w') (hs:¬S g):OwI w' B g cap zs:=by
 refine ⟨⟨h.1.1,?_⟩,h.2⟩
 have hlt:=h.lt.2
 rcases h.1.2 with ⟨h',_⟩ | ⟨g',cap',cur,h',hg,hh,r⟩
 ·simp at h'
 ·have e:g'=g:=by simp at h';exact h'.1.symm
  subst e
  exact .inr ⟨g',cap',cur,h',hg,by rw [ho.block g' hlt hs];exact hh,r⟩

def MinI (w:World) (B U:Nat) (a:Option Addr) (cap:Nat) (zs:List Int):Prop:=
 (a=none∧zs=[]∧cap=0)∨∃ g,a=some ⟨g,0,none⟩∧B≤g∧g<U∧OwI w B g cap zs

theorem MinI.byt {w:World} {B U:Nat} {a:Option Addr} {cap:Nat} {zs:List Int} (h:MinI w B U a cap zs):Ins w a zs:=by
 rcases h with ⟨rfl,rfl,rfl⟩ | ⟨g,rfl,_,_,h⟩
 ·exact ⟨by simp,by simp⟩
 ·exact h.byt
theorem MinI.only {S:Nat→Prop} {w w':World} {B U:Nat} {a:Option Addr} {cap:Nat} {zs:List Int} (h:MinI w B U a cap zs) (ho:Only S w w') (hs:∀ k,B≤k→k<U→¬S k):MinI w' B U a cap zs:=by
 rcases h with h | ⟨g,rfl,h1,h2,h⟩
 ·exact .inl h
 ·exact .inr ⟨g,rfl,h1,h2,h.only ho (hs g h1 h2)⟩
theorem MinI.below {w w':World} {B U:Nat} {a:Option Addr} {cap:Nat} {zs:List Int} (h:MinI w B U a cap zs) (ho:Below w.heap.size w w'):MinI w' B U a cap zs:=h.only (Only.ofBelow (S:=fun _=>False) ho (Nat.le_refl _)) (by simp)
theorem MinI.mono {w:World} {B U B' U':Nat} {a:Option Addr} {cap:Nat} {zs:List Int} (h:MinI w B U a cap zs) (h1:B'≤B) (h2:U≤U'):MinI w B' U' a cap zs:=by
 rcases h with h | ⟨g,rfl,g1,g2,h⟩
 ·exact .inl h
 ·exact .inr ⟨g,rfl,by omega,by omega,h.mono h1⟩
theorem OwI.mine {w:World} {B g cap:Nat} {zs:List Int} (h:OwI w B g cap zs):MinI w B w.heap.size (some ⟨g,0,none⟩) cap zs:=.inr ⟨g,rfl,h.lt.1,h.lt.2,h⟩

end Go.Proofs.YtaibkchbkedjnaaGreatDoor
