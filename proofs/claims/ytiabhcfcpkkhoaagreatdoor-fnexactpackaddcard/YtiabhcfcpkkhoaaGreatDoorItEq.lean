/-
  eqPack says yes of two packs that say the same.
-/
import Derived.Test.YtiabhcfcpkkhoaaGreatDoorElC
import Derived.Deep.Slices
import Derived.Deep.Strs
import Derived.ChangeSame
import Derived.Deep.RegionHeld3
namespace Go.Proofs.YtiabhcfcpkkhoaaGreatDoor
open Go.RowKit
set_option linter.unusedVariables false

theorem getD_replE (n k:Nat):(List.replicate n de).getD k de=de:=by
  rw [List.getD_eq_getElem?_getD,List.getElem?_replicate];split <;> rfl
theorem made_pens (n:Nat):(madeCells (Value.agg #[.int .i64 0,.slice none 0 0]).cells (n * 2)).toList=(List.replicate n de).flatMap (El.cells true):=by
  apply List.ext_getElem?
  intro i
  by_cases hi:i<n * 2
  · have e:=eflat_get true (List.replicate n de) (i / 2) (by simp;omega) (i % 2) (by simp [eW];omega)
    rw [getD_replE] at e
    simp only [eW,cond_true] at e
    rw [show i / 2 * 2+i % 2=i from by omega] at e
    rw [e]
    simp only [madeCells,Array.toList_map,Array.toList_range,List.getElem?_map,List.getElem?_range hi,Option.map_some]
    have h2:i % 2=0∨i % 2=1:=by omega
    rcases h2 with h2 | h2 <;> simp [Value.cells,de,El.cells,h2]
  · rw [List.getElem?_eq_none (by simp [madeCells];omega),List.getElem?_eq_none (by rw [eflat_len];simp [eW];omega)]

theorem getD_app_replE (bs:List El) (m i:Nat) (h:bs.length≤i):(bs++List.replicate m de).getD i de=de:=by
  rw [List.getD_eq_getElem?_getD,List.getElem?_append_right h,List.getElem?_replicate];split <;> rfl
theorem set_app_replE (bs:List El) (m k:Nat) (s:El) (h:bs.length=k) (hk:0<m):(bs++List.replicate m de).set k s=(bs++[s])++List.replicate (m - 1) de:=by
  rw [List.set_append_right _ _ (by omega),h,Nat.sub_self,show m=(m - 1)+1 from by omega,List.replicate_succ,List.set_cons_zero,List.append_assoc]
  rfl
theorem ctE_take_succ (ss:List El) (k:Nat) (h:k<ss.length):(ss.take (k+1)).map El.ct=(ss.take k).map El.ct++[(ss.getD k de).ct]:=by
  rw [List.take_succ_eq_append_getElem h,List.map_append]
  simp [List.getD_eq_getElem?_getD,List.getElem?_eq_getElem h]
theorem rE_snoc {p:Bool} {bs:List El} {e:El} (h:∀ x ∈ bs,rE p x) (he:rE p e):∀ x ∈ bs++[e],rE p x:=by
  intro x hx
  rcases List.mem_append.1 hx with hx | hx
  · exact h x hx
  · simp at hx;subst hx;exact he
theorem Deep.lt {w:World} {B:Nat} {es:List El} (h:Deep w B es):∀ x ∈ es,∀ k,rowOf x.a k→k<w.heap.size:=fun x hx k hk=>((h.mine x hx).rowE hk).2

theorem Deep.app {w:World} {B U:Nat} {es fs:List El} (h:Deep w B es) (h2:Deep w U fs) (hU:∀ x ∈ es,∀ k,rowOf x.a k→k<U) (hB:B≤U):Deep w B (es++fs):=by
  refine ⟨?_,?_⟩
  · intro x hx
    rcases List.mem_append.1 hx with hx | hx
    · exact h.mine x hx
    · exact (h2.mine x hx).mono hB (Nat.le_refl _)
  · rw [List.map_append,List.pairwise_append]
    refine ⟨h.apart,h2.apart,?_⟩
    intro x hx y hy k hk hk2
    obtain ⟨z,hz,rfl⟩:=List.mem_map.1 hx
    obtain ⟨z2,hz2,rfl⟩:=List.mem_map.1 hy
    have h3:=hU z hz k hk
    have h4:=((h2.mine z2 hz2).rowE hk2).1
    omega

def elets :List El→Nat
  | [] => 0
  | s :: ss => s.ls.length + elets ss
theorem elets_app (a b:List El):elets (a++b)=elets a+elets b:=by
  induction a with
  | nil => simp [elets]
  | cons s a ih => simp only [List.cons_append, elets, ih]; omega
theorem elets_take_succ (ss:List El) (k:Nat) (h:k<ss.length):elets (ss.take (k+1))=elets (ss.take k)+(ss.getD k de).ls.length:=by
  rw [List.take_succ_eq_append_getElem h,elets_app]
  simp [elets,List.getD_eq_getElem?_getD,List.getElem?_eq_getElem h]
theorem elets_take_le (ss:List El) (k:Nat):elets (ss.take k)≤elets ss:=by
  have h1:=elets_app (ss.take k) (ss.drop k)
  rw [List.take_append_drop] at h1
  omega
theorem elets_mem {s:El} {ss:List El} (h:s ∈ ss):s.ls.length≤elets ss:=by
  induction ss with
  | nil => cases h
  | cons x ss ih =>
    rcases List.mem_cons.1 h with rfl | h
    · simp only [elets];omega
    · have:=ih h;simp only [elets];omega
theorem elets_ct (ss ts:List El) (h:ss.map El.ct=ts.map El.ct):elets ss=elets ts:=by
  induction ss generalizing ts with
  | nil => cases ts with
    | nil => rfl
    | cons t ts => simp at h
  | cons s ss ih => cases ts with
    | nil => simp at h
    | cons t ts =>
      simp only [List.map_cons,List.cons.injEq] at h
      have h1:s.ls=t.ls:=by have:=congrArg Prod.snd h.1;exact this
      simp only [elets,h1,ih ts h.2]
structure OVt (w:World) (B:Nat) (v:Value) (es:List El):Prop where
  own:w.ownsRow B 36 (eW true) v es.length (es.flatMap (El.cells true))
section
variable {w w' : World} {B : Nat} {v : Value} {es : List El}
theorem OVt.nil (w:World) (B:Nat):OVt w B (.slice none 0 0) []:=⟨⟨by simp,.inl ⟨rfl,rfl⟩⟩⟩
theorem OVt.form (h:OVt w B v es):∃ (a:Option Addr) (c:Nat),v=.slice a es.length c:=by
  rcases h.own.2 with ⟨rfl,h0⟩ | ⟨g,cap,cur,rfl,_⟩
  · exact ⟨none,0,by rw [h0]⟩
  · exact ⟨_,_,rfl⟩
theorem OVt.blk (h:OVt w B v es) {k:Nat} (hk:v.ownBlock=some k):B≤k∧k<w.heap.size:=by
  rcases h.own.2 with ⟨rfl,h0⟩ | ⟨g,cap,cur,rfl,hg,hh,_⟩
  · simp [Value.ownBlock] at hk
  · simp [Value.ownBlock] at hk
    subst hk
    exact ⟨hg,(Array.getElem?_eq_some_iff.1 hh).1⟩
theorem OVt.stay {S:Nat→Prop} (h:OVt w B v es) (ho:Only S w w') (hs:∀ k,v.ownBlock=some k→¬ S k):OVt w' B v es:=by
  refine ⟨⟨h.own.1,?_⟩⟩
  rcases h.own.2 with h' | ⟨g,cap,cur,rfl,hg,hh,r⟩
  · exact .inl h'
  · exact .inr ⟨g,cap,cur,rfl,hg,(ho.block g (Array.getElem?_eq_some_iff.1 hh).1 (hs g rfl)).trans hh,r⟩
theorem OVt.below (h:OVt w B v es) (hb:Below w.heap.size w w'):OVt w' B v es:=h.stay (Only.ofBelow (S:=fun _=>False) hb (Nat.le_refl _)) (by simp)
theorem OVt.weak {B':Nat} (h:OVt w B v es) (hB:B'≤B):OVt w B' v es:=by
  refine ⟨⟨h.own.1,?_⟩⟩
  rcases h.own.2 with h' | ⟨g,cap,cur,h',hg,r⟩
  · exact .inl h'
  · exact .inr ⟨g,cap,cur,h',by omega,r⟩
theorem OVt.cell (h:OVt w B v es) (k:Nat) (hk:k<es.length):∃ g cap,v=.slice (some ⟨g,0,none⟩) es.length cap∧B≤g∧g<w.heap.size∧(∀ i,w.frozen? ⟨g,i,none⟩=false)∧∀ i,i<es.length→LieE true w g (i * eW true) (es.getD i de):=by
  rcases h.own.2 with ⟨_,h0⟩ | ⟨g,cap,cur,rfl,hg,hh,r⟩
  · omega
  · refine ⟨g,cap,rfl,hg,(Array.getElem?_eq_some_iff.1 hh).1,fun i=>h.own.frozenAt i,fun i hi=>?_⟩
    have hp:i * eW true+eW true≤es.length * eW true:=by rw [show i * eW true+eW true=(i+1) * eW true from by rw [Nat.add_mul,Nat.one_mul]];exact Nat.mul_le_mul_right _ hi
    refine ⟨fun hp1=>?_,?_⟩
    · have e0:=eflat_get true es i hi 0 (by simp [eW])
      rw [Nat.add_zero] at e0
      rw [h.own.cellAt (i * eW true) (by simp [eW] at hp ⊢;omega),e0]
      rfl
    · rw [h.own.cellAt (i * eW true+eO true) (by simp [eW,eO] at hp ⊢;omega),eflat_get true es i hi (eO true) (by simp [eW,eO])]
      rfl
theorem OVt.els {a:Option Addr} {n c:Nat} (h:OVt w B (.slice a n c) es) (hr:∀ e ∈ es,rE true e∧Byt w e.a e.ls):Els true w a es:=by
  refine ⟨hr,fun hz=>?_⟩
  obtain ⟨g,cap,e,h1,h2,_,h4⟩:=h.cell 0 hz
  simp at e
  obtain ⟨rfl,rfl,rfl⟩:=e
  exact ⟨g,0,rfl,h2,fun i hi=>by rw [Nat.zero_add];exact h4 i hi⟩
theorem OVt.store (h:OVt w B v es) (k:Nat) (hk:k<es.length) (e:El) (j:Nat) (hj:j<eW true) (u:Value) (he:((es.getD k de).cells true).set j u=e.cells true) {g:Nat} (hg:v.ownBlock=some g):OVt (w.setCell ⟨g,k * eW true+j,none⟩ u) B v (es.set k e):=by
  obtain ⟨a,c,rfl⟩:=h.form
  have hv:∃ g',a=some ⟨g',0,none⟩:=by
    obtain ⟨g',cap,e,_⟩:=h.cell k hk
    simp at e
    exact ⟨g',e.1⟩
  obtain ⟨g',rfl⟩:=hv
  obtain rfl:g'=g:=by simpa [Value.ownBlock] using hg
  have r:=(h.own.stored (k * eW true+j) u).1
  rw [eflat_set true es e j hj u k hk he] at r
  exact ⟨by rw [List.length_set];exact r⟩
theorem OVt.other (h:OVt w B v es) {a:Option Addr} {B' U c:Nat} {zs:List Int} (hm:Mine w B' U a c zs) {g:Nat} (hg:v.ownBlock=some g):¬ rowOf a g:=by
  rintro ⟨x,hx,hxg⟩
  rcases hm with ⟨h',_⟩ | ⟨g',h',g1,g2,ho⟩
  · rw [h'] at hx;cases hx
  · rw [h'] at hx
    simp at hx
    rw [← hx] at hxg
    simp at hxg
    subst hxg
    rcases ho.1.2 with ⟨e,_⟩ | ⟨k,cap1,cur1,e,_,hh,_⟩
    · simp at e
    · obtain rfl:g'=k:=by simp at e;exact e.1
      rcases h.own.2 with ⟨e2,_⟩ | ⟨k2,cap2,cur2,e2,_,hh2,_⟩
      · subst e2;simp [Value.ownBlock] at hg
      · subst e2
        obtain rfl:k2=g':=by simpa [Value.ownBlock] using hg
        rw [hh] at hh2
        simp at hh2
end
theorem Tryz.infoItem :(Tryz.prog.info? 36).map (fun i=>(i.zero,i.size,i.bytes))=some (some (.agg #[.int .i64 0,.slice none 0 0]),2,32):=by kernel_rfl

structure CopT (w:World) (B:Nat) (v:Value) (ts ss:List El):Prop where
  ct:ts.map El.ct=ss.map El.ct
  row:OVt w B v ts
  deep:Deep w B ts
  rng:∀ e ∈ ts,rE true e
theorem CopT.stay {S:Nat→Prop} {w w':World} {B:Nat} {v:Value} {ts ss:List El} (h:CopT w B v ts ss) (ho:Only S w w') (hs:∀ k,B≤k→¬ S k):CopT w' B v ts ss:=
  ⟨h.ct,h.row.stay ho (fun k hk=>hs k (h.row.blk hk).1),h.deep.stay ho (fun e he k hk=>hs k ((h.deep.mine e he).rowE hk).1),h.rng⟩
theorem CopT.below {w w':World} {B:Nat} {v:Value} {ts ss:List El} (h:CopT w B v ts ss) (hb:Below w.heap.size w w'):CopT w' B v ts ss:=⟨h.ct,h.row.below hb,h.deep.below hb,h.rng⟩
theorem CopT.weak {w:World} {B B':Nat} {v:Value} {ts ss:List El} (h:CopT w B v ts ss) (hB:B'≤B):CopT w B' v ts ss:=⟨h.ct,h.row.weak hB,h.deep.weak hB,h.rng⟩
theorem Mine.capM {w:World} {B U:Nat} {a:Option Addr} {c:Nat} {zs:List Int} (h:Mine w B U a c zs):zs.length≤c:=by
  rcases h with ⟨-,rfl,rfl⟩ | ⟨g,-,-,-,h⟩
  · simp
  · rcases h.1.2 with ⟨e,_⟩ | ⟨g',cap',cur,e,-,-,r,-⟩
    · simp at e
    · simp at e
      omega
structure ItI (w:World) (a:Option Addr) (es:List El):Prop where
  els:Els true w a es
  cap:∀ e ∈ es,e.ls.length≤e.c
theorem ItI.below {w w':World} {a:Option Addr} {es:List El} {B:Nat} (h:ItI w a es) (hb:Below B w w') (hB:w.heap.size≤B):ItI w' a es:=⟨h.els.below hb hB,h.cap⟩
theorem CopT.its {w:World} {B n c:Nat} {a:Option Addr} {ts ss:List El} (h:CopT w B (.slice a n c) ts ss):ItI w a ts:=
  ⟨h.row.els (fun e he=>⟨h.rng e he,h.deep.byt e he⟩),fun e he=>(h.deep.mine e he).capM⟩

structure Box3 (W:World) (b:Nat) (x y z:Value):Prop where
  c0:W.cell? ⟨b,0,none⟩=some x
  c1:W.cell? ⟨b,1,none⟩=some y
  c2:W.cell? ⟨b,2,none⟩=some z
  f0:W.frozen? ⟨b,0,none⟩=false
  f1:W.frozen? ⟨b,1,none⟩=false
  f2:W.frozen? ⟨b,2,none⟩=false
  lt:b<W.heap.size
theorem Box3.new (w:World) (x y z:Value) (T:TypeId):Box3 (w.alloc (Obj.cells #[x,y,z] T)) w.heap.size x y z:=⟨by simp,by simp,by simp,by simp,by simp,by simp,by simp⟩
theorem Box3.keep {W W':World} {b B:Nat} {x y z:Value} (h:Box3 W b x y z) (hb:Below B W W') (hB:b<B):Box3 W' b x y z:=
  ⟨Go.Proofs.YtiabhcfcpkkhoaaGreatDoor.keep hb hB h.c0,Go.Proofs.YtiabhcfcpkkhoaaGreatDoor.keep hb hB h.c1,Go.Proofs.YtiabhcfcpkkhoaaGreatDoor.keep hb hB h.c2,(hb.frozen (p:=⟨b,0,none⟩) hB).trans h.f0,(hb.frozen (p:=⟨b,1,none⟩) hB).trans h.f1,(hb.frozen (p:=⟨b,2,none⟩) hB).trans h.f2,Nat.lt_of_lt_of_le h.lt hb.size⟩
theorem Box3.step {W W':World} {b:Nat} {x y z:Value} (h:Box3 W b x y z) (hb:Below W.heap.size W W'):Box3 W' b x y z:=h.keep hb h.lt
theorem Box3.alloc {W:World} {b:Nat} {x y z:Value} (h:Box3 W b x y z) (o:Obj):Box3 (W.alloc o) b x y z:=h.keep ((Below.refl W.heap.size W).alloc (Nat.le_refl _) o) h.lt
end Go.Proofs.YtiabhcfcpkkhoaaGreatDoor
namespace Go.Proofs.YtiabhcfcpkkhoaaGreatDoor
open Go.ChangeShapes Go.WideShapes Go.ChangeAt Go.RowKit Go.Joins
set_option linter.unusedVariables false

theorem Tryz.cellsLItem :Tryz.prog.cellsOf 27=2:=by kernel_rfl
theorem Tryz.cellsIBs :Tryz.prog.cellsOf 25=1:=by kernel_rfl
theorem Tryz.cellsIInt :Tryz.prog.cellsOf 3=1:=by kernel_rfl

set_option maxRecDepth 20000 in
theorem item_of_trod {H:Type} {enc:TypeId × Value→H} {W:World} {n:Nat} {cs:List Value} {x:DataW H × List MemPlace} {b off:Nat} (hl:cs.length=2) (hc:∀ i,i<2→W.cell? ⟨b,off+i,none⟩=cs[i]?)
    (h:DataW.trod enc Tryz.prog W 0 (fun _=>true) true n 27 cs=some x):∃ e:El,LieE true W b off e∧rE true e∧Byt W e.a e.ls:=by
  obtain ⟨y0,y1,k,-,-,g0,g1⟩:=trod_struct2 Tryz.underlying27 h
  match cs,hl with
  | [v0, v1], _ =>
    have g0':DataW.trod enc Tryz.prog W 0 (fun _=>true) true k 3 [v0]=some y0:=by
      have:=g0
      simp only [Tryz.cellsIInt] at this
      exact this
    have g1':DataW.trod enc Tryz.prog W 0 (fun _=>true) true k 25 [v1]=some y1:=by
      have:=g1
      simp only [Tryz.cellsIBs] at this
      exact this
    obtain ⟨N,e1,_,w1⟩:=DataW.trod_int Tryz.underlying3 g0'
    obtain ⟨a,zs,cap,rfl,hb,hm⟩:=byt_of_trod g1'
    simp at e1
    subst e1
    have h0:=hc 0 (by omega)
    have h1:=hc 1 (by omega)
    simp at h0 h1
    have hr:=bounds_i64 w1
    exact ⟨⟨N,a,cap,zs⟩,⟨fun _=>h0,h1⟩,⟨hr.1,hr.2,hm,by simp⟩,hb⟩
theorem its_of_trod (p:Bool) {T S:TypeId} (hT:Tryz.prog.underlying S=some (.slice T)) (hcell:Tryz.prog.cellsOf T=eW p) {H:Type} {enc:TypeId × Value→H} {W:World} {fuel:Nat} {v:Value} {y:DataW H × List MemPlace}
    (one:∀ {n:Nat} {cs:List Value} {x:DataW H × List MemPlace} {b off:Nat},cs.length=eW p→(∀ i,i<eW p→W.cell? ⟨b,off+i,none⟩=cs[i]?)→DataW.trod enc Tryz.prog W 0 (fun _=>true) true n T cs=some x→∃ e:El,LieE p W b off e∧rE p e∧Byt W e.a e.ls)
    (h:DataW.trod enc Tryz.prog W 0 (fun _=>true) true fuel S [v]=some y) :
    ∃ (a:Option Addr) (ss:List El) (cap:Nat),v=.slice a ss.length cap∧Els p W a ss∧ss.length≤maxLen:=by
  rcases Go.Deep.open_slice hT h with ⟨hcs,_⟩ | ⟨x,l,c,m,n,D,Pl,hcs,_,hl,hm,hmm,_,hx⟩
  · simp at hcs
    subst hcs
    exact ⟨none,[],0,rfl,⟨by simp,by simp⟩,by simp⟩
  · simp at hcs
    subst hcs
    simp only [if_true] at hmm
    subst hmm
    rw [hcell] at hx
    have hw:0<eW p:=by cases p <;> simp [eW]
    by_cases hl0:l=0
    · subst hl0
      exact ⟨some x,[],m,rfl,⟨by simp,by simp⟩,by simp⟩
    · obtain ⟨b,off,spot⟩:=x
      obtain ⟨cs0,h0,_⟩:=hx 0 (by omega)
      obtain ⟨_,hlen0,hcell0⟩:=World.cells?_some h0
      have hc0:=hcell0 0 (by omega)
      have hspot:spot=none:=by
        rw [List.getElem?_eq_getElem (by omega)] at hc0
        simpa [Addr.add] using World.cell?_spot hc0
      subst hspot
      have hblk:b<W.heap.size:=by
        rw [List.getElem?_eq_getElem (by omega)] at hc0
        have:=World.block_lt_of_cell? _ _ hc0
        simpa [Addr.add] using this
      have hadd:∀ o i:Nat,(⟨b,o,none⟩:Addr).add i=⟨b,o+i,none⟩:=fun o i=>by unfold Addr.add;split <;> simp_all
      have each:∀ i,i<l→∃ e:El,LieE p W b (off+i * eW p) e∧rE p e∧Byt W e.a e.ls:=by
        intro i hi
        obtain ⟨cs',h1,h2⟩:=hx i (by omega)
        obtain ⟨_,hlen,hcell⟩:=World.cells?_some h1
        refine one hlen (fun j hj=>?_) h2
        have:=hcell j hj
        rw [hadd,hadd] at this
        exact this
      haveI:Inhabited El:=⟨de⟩
      obtain ⟨f,hf⟩:=Go.Deep.choose_lt each
      have hlen:((List.range l).map f).length=l:=by simp
      refine ⟨some ⟨b,off,none⟩,(List.range l).map f,m,by rw [hlen],⟨?_,fun _=>⟨b,off,rfl,hblk,fun i hi=>?_⟩⟩,by rw [hlen];omega⟩
      · intro s hs
        simp only [List.mem_map,List.mem_range] at hs
        obtain ⟨i,hi,rfl⟩:=hs
        exact (hf i hi).2
      · rw [hlen] at hi
        rw [show ((List.range l).map f).getD i de=f i from by simp [List.getD_eq_getElem?_getD,hi]]
        exact (hf i hi).1
theorem items_of_trod {H:Type} {enc:TypeId × Value→H} {W:World} {fuel:Nat} {v:Value} {y:DataW H × List MemPlace} (h:DataW.trod enc Tryz.prog W 0 (fun _=>true) true fuel 22 [v]=some y) :
    ∃ (a:Option Addr) (ss:List El) (cap:Nat),v=.slice a ss.length cap∧Els true W a ss∧ss.length≤maxLen:=its_of_trod true Tryz.underlying22 Tryz.cellsLItem (fun a b c=>item_of_trod a b c) h
set_option maxRecDepth 20000 in
/-- A pack that came in. -/
theorem open_pack {H:Type} {enc:TypeId × Value→H} {W:World} {r:Reach} {b0:Nat} {v:Value} {d:DataW H} {p:List MemPlace}
    (hv:Value.okWide Tryz.prog W r b0 24 v) (h:DataW.Trod enc Tryz.prog W 0 (fun _=>true) true 24 v d p) :
    ∃ (E O:Int) (a:Option Addr) (es:List El) (cap:Nat),v=.agg #[.int .i64 E,.int .i64 O,.slice a es.length cap]∧Els true W a es∧es.length≤maxLen∧(-9223372036854775808≤E∧E≤9223372036854775807)∧(-9223372036854775808≤O∧O≤9223372036854775807):=by
  obtain ⟨cs,rfl,hsz⟩:=okWide_struct Tryz.underlying24 hv
  have hC:Tryz.prog.cellsOf 24=3:=by kernel_rfl
  have hC2:Tryz.prog.cellsOf 22=1:=by kernel_rfl
  have hsz1:=hsz.trans hC
  obtain ⟨v0,v1,v2,rfl⟩:∃ v0 v1 v2,cs=#[v0,v1,v2]:=by
    obtain ⟨l⟩:=cs
    match l,hsz1 with
    | [v0, v1, v2], _ => exact ⟨v0, v1, v2, rfl⟩
  obtain ⟨fuel,hf⟩:=h
  obtain ⟨y0,y1,y2,n,hx,hl,hy0,hy1,hy2⟩:=Go.Deep.trod_struct3 Tryz.underlying24 hf
  obtain ⟨E,e0,_,w0⟩:=DataW.trod_int Tryz.underlying3 (show DataW.trod enc Tryz.prog W 0 (fun _=>true) true n 3 [v0]=some y0 by simpa [Value.cells,Tryz.cellsIInt] using hy0)
  obtain ⟨O,e1,_,w1⟩:=DataW.trod_int Tryz.underlying3 (show DataW.trod enc Tryz.prog W 0 (fun _=>true) true n 3 [v1]=some y1 by simpa [Value.cells,Tryz.cellsIInt] using hy1)
  obtain ⟨a,es,cap,e,h1,h2⟩:=items_of_trod (v:=v2) (by simpa [Value.cells,Tryz.cellsIInt,hC2] using hy2)
  simp at e0 e1
  subst e0 e1 e
  exact ⟨E,O,a,es,cap,rfl,h1,h2,bounds_i64 w0,bounds_i64 w1⟩
set_option maxRecDepth 20000 in
/-- An item that came in. -/
theorem open_item {H:Type} {enc:TypeId × Value→H} {W:World} {r:Reach} {b0:Nat} {v:Value} {d:DataW H} {p:List MemPlace}
    (hv:Value.okWide Tryz.prog W r b0 27 v) (h:DataW.Trod enc Tryz.prog W 0 (fun _=>true) true 27 v d p) :
    ∃ (N:Int) (a:Option Addr) (zs:List Int) (cap:Nat),v=.agg #[.int .i64 N,.slice a zs.length cap]∧Byt W a zs∧zs.length≤maxLen∧(-9223372036854775808≤N∧N≤9223372036854775807):=by
  obtain ⟨cs,rfl,hsz⟩:=okWide_struct Tryz.underlying27 hv
  have hsz1:=hsz.trans Tryz.cellsLItem
  obtain ⟨v0,v1,rfl⟩:∃ v0 v1,cs=#[v0,v1]:=by
    obtain ⟨l⟩:=cs
    match l,hsz1 with
    | [v0, v1], _ => exact ⟨v0, v1, rfl⟩
  obtain ⟨fuel,hf⟩:=h
  obtain ⟨y0,y1,k,-,-,g0,g1⟩:=trod_struct2 Tryz.underlying27 hf
  obtain ⟨N,e0,_,w0⟩:=DataW.trod_int Tryz.underlying3 (show DataW.trod enc Tryz.prog W 0 (fun _=>true) true k 3 [v0]=some y0 by simpa [Value.cells,Tryz.cellsIInt] using g0)
  obtain ⟨a,zs,cap,e,hb,hm⟩:=byt_of_trod (v:=v1) (show DataW.trod enc Tryz.prog W 0 (fun _=>true) true k 25 [v1]=some y1 by simpa [Value.cells,Tryz.cellsIInt,Tryz.cellsIBs] using g1)
  simp at e0
  subst e0 e
  exact ⟨N,a,zs,cap,rfl,hb,hm,bounds_i64 w0⟩
end Go.Proofs.YtiabhcfcpkkhoaaGreatDoor
namespace Go.Proofs.YtiabhcfcpkkhoaaGreatDoor
open Go.RowKit
set_option linter.unusedVariables false

structure FewI (es:List El):Prop where
  n:es.length≤1048576
  l:∀ s ∈ es,s.ls.length≤1048576
  sum:es.length+elets es≤1048576
theorem FewI.mk' {es:List El} (h:es.length+elets es≤1048576):FewI es:=⟨by omega,fun s hs=>by have:=elets_mem hs;omega,h⟩
theorem FewI.ct {es ts:List El} (h:FewI es) (h1:ts.map El.ct=es.map El.ct):FewI ts:=FewI.mk' (by rw [len_ctE h1,elets_ct _ _ h1];exact h.sum)
set_option maxHeartbeats 800000 in
theorem eqByteS_any (a b:Option Addr) (ca cb:Nat) (xs ys:List Int) (w:World) (ha:Byt w a xs) (hb:Byt w b ys) (hx:xs.length≤281474976710656) (hy:ys.length≤281474976710656) :
    Calls Tryz.prog 30 #[.slice a xs.length ca,.slice b ys.length cb] w fun e w'=>e=.returned (.bool (decide (xs=ys)))∧∃ n,w'=w.drewN n:=by
  by_cases hl:xs.length=ys.length
  · generalize hlx:xs.length=n at *
    have HX:Hid (xs.length=n):=hlx
    have HY:Hid (ys.length=n):=hl.symm
    rw [← hl]
    have hnn:((n:Int) != (n:Int))=false:=by simp
    clear hlx hl hy
    go_enter Tryz.func30,Tryz.ntmps30
    go_wp2
    go_loopw [5] (fun i wr=>∃ k m:Nat,k≤n∧i=.int .i64 k∧wr=w.drewN m∧xs.take k=ys.take k) (fun i _=>n - (intOf i).toNat)
    case atStart=>exact ⟨0,0,Nat.zero_le _,rfl,rfl,by simp⟩
    case round=>
      obtain ⟨k,m,hk,rfl,rfl,htk⟩:=hrel
      have HT:Hid (xs.take k=ys.take k):=htk
      clear htk
      by_cases hlt:k<n
      · obtain ⟨b1,o1,rfl,hb1,hc1⟩:=ha.len_pos k (by rw [HX.out];exact hlt)
        obtain ⟨b2,o2,rfl,hb2,hc2⟩:=hb.len_pos k (by rw [HY.out];exact hlt)
        have hs1:=hc1 k (by rw [HX.out];exact hlt)
        have hs2:=hc2 k (by rw [HY.out];exact hlt)
        have g1:=getD_rng ha.1 k
        have g2:=getD_rng hb.1 k
        clear hc1 hc2 ha hb
        generalize hx1:xs.getD k 0=x1 at *
        generalize hy1:ys.getD k 0=y1 at *
        have HX1:Hid (xs.getD k 0=x1):=hx1
        have HY1:Hid (ys.getD k 0=y1):=hy1
        clear hx1 hy1
        by_cases hxy:x1=y1
        · subst hxy
          have hq:(x1 != x1)=false:=by simp
          have HT':Hid (xs.take (k+1)=ys.take (k+1)):=take_eq_succ HT.out (by rw [HX.out];exact hlt) (by rw [HY.out];exact hlt) (by rw [HX1.out,HY1.out])
          go_wp2
          go_quiet (fail)
          go_wp2
          go_roundw
          case rel=>exact ⟨k+1,_,by omega,by go_num,rfl,HT'.out⟩
          case measure=>simp [intOf];omega
        · have hq:(x1 != y1)=true:=by rw [bne_iff_ne];exact hxy
          have HN:Hid (decide (xs=ys)=false):=by
            have:xs≠ys:=ne_of_getD (k:=k) (by rw [HX1.out,HY1.out];exact hxy)
            simpa [Hid] using this
          clear hxy
          go_wp2
          go_quiet (fail)
          go_wp2
          go_ret
          exact ⟨by rw [HN.out];rfl,_,World.drewN_drewN ..⟩
      · have HE:Hid (decide (xs=ys)=true):=by
          have h1:=HT.out
          rw [List.take_of_length_le (by rw [HX.out];omega),List.take_of_length_le (by rw [HY.out];omega)] at h1
          simpa [Hid] using h1
        go_wp2
        go_ret
        exact ⟨by rw [HE.out];rfl,_,rfl⟩
  · have hne:decide (xs=ys)=false:=by simp;intro h;exact hl (by rw [h])
    have hl':((xs.length:Int) != (ys.length:Int))=true:=by rw [bne_iff_ne];omega
    rw [hne]
    go_enter Tryz.func30,Tryz.ntmps30
    go_wp2
    go_ret
    exact ⟨rfl,0,rfl⟩

theorem eqByteS_yes (a b:Option Addr) (ca cb:Nat) (xs:List Int) (w:World) (ha:Byt w a xs) (hb:Byt w b xs) (hx:xs.length≤281474976710656) :
    Calls Tryz.prog 30 #[.slice a xs.length ca,.slice b xs.length cb] w fun e w'=>e=.returned (.bool true)∧∃ n,w'=w.drewN n:=by
  refine (eqByteS_any a b ca cb xs xs w ha hb hx hx).mono ?_
  rintro e w' ⟨rfl,h⟩
  exact ⟨by simp,h⟩

theorem below_dI {w W:World} {B:Nat} (h:Below B w W) (n:Nat):Below B w (W.drewN n):=⟨h.os,h.tape,h.output,h.size,h.block⟩

set_option maxHeartbeats 800000 in
theorem eqItem_yes (a b:Option Addr) (ca cb:Nat) (xs:List Int) (n:Int) (w:World) (ha:Byt w a xs) (hb:Byt w b xs) (hx:xs.length≤281474976710656) :
    Calls Tryz.prog 11 #[.agg #[.int .i64 n,.slice a xs.length ca],.agg #[.int .i64 n,.slice b xs.length cb]] w fun e w'=>e=.returned (.bool true)∧Below w.heap.size w w':=by
  have hw:Below w.heap.size w ((w.alloc (Obj.cells #[Value.int IntKind.i64 n,Value.slice a xs.length ca] 36)).alloc (Obj.cells #[Value.int IntKind.i64 n,Value.slice b xs.length cb] 36)):=((Below.refl _ _).alloc (Nat.le_refl _) _).alloc (by simp) _
  have hnn:(n != n)=false:=by simp
  go_enter Tryz.func11,Tryz.ntmps11
  go_wp2_with fail
  refine (eqByteS_yes a b ca cb xs _ (ha.below hw (Nat.le_refl _)) (hb.below hw (Nat.le_refl _)) hx).mono ?_
  rintro e w1 ⟨rfl,nq,rfl⟩
  go_wp2
  go_ret
  exact ⟨rfl,below_dI hw _⟩

set_option maxHeartbeats 1600000 in
theorem eqItemS_yes (a b:Option Addr) (ca cb:Nat) (ss ts:List El) (w:World) (ha:Els true w a ss) (hb:Els true w b ts) (hct:ss.map El.ct=ts.map El.ct) (hx:ss.length≤281474976710656) (hxl:∀ s ∈ ss,s.ls.length≤281474976710656) :
    Calls Tryz.prog 29 #[.slice a ss.length ca,.slice b ss.length cb] w fun e w'=>e=.returned (.bool true)∧Below w.heap.size w w':=by
  have htl:ts.length=ss.length:=by have:=congrArg List.length hct;simpa using this.symm
  have HA:Hid (Els true w a ss):=ha
  have HB:Hid (Els true w b ts):=hb
  have HCT:Hid (ss.map El.ct=ts.map El.ct∧ts.length=ss.length):=⟨hct,htl⟩
  have HXL:Hid (∀ s ∈ ss,s.ls.length≤281474976710656):=hxl
  clear ha hb hct htl hxl
  generalize hlen:ss.length=n at *
  have HL:Hid (ss.length=n∧True):=⟨hlen,trivial⟩
  clear hlen
  have hnn:((n:Int) != (n:Int))=false:=by simp
  go_enter Tryz.func29,Tryz.ntmps29
  go_wp2
  go_loopw [5] (fun i wr=>∃ k:Nat,k≤n∧i=.int .i64 k∧Below w.heap.size w wr) (fun i _=>n - (intOf i).toNat)
  case atStart=>exact ⟨0,Nat.zero_le _,rfl,Below.refl _ _⟩
  case round=>
    obtain ⟨k,hk,rfl,hbel⟩:=hrel
    by_cases hlt:k<n
    · obtain ⟨b1,o1,rfl,hb1,c0,c1,hy1,-⟩:=(HA.out.below hbel (Nat.le_refl _)).pen k (by rw [HL.out.1];exact hlt)
      obtain ⟨b2,o2,rfl,hb2,d0,d1,hy2,-⟩:=(HB.out.below hbel (Nat.le_refl _)).pen k (by rw [HCT.out.2];exact hlt)
      have hml:=HXL.out _ (getD_memE (k:=k) (by rw [HL.out.1];exact hlt))
      have hce:=ctE_get HCT.out.1 k
      generalize ss.getD k de=s at *
      generalize ts.getD k de=t at *
      obtain ⟨sn,sa,sc,sl⟩:=s
      obtain ⟨tn,ta,tc,tl⟩:=t
      simp only [El.ct,Prod.mk.injEq] at hce
      obtain ⟨rfl,rfl⟩:=hce
      simp only at c0 c1 d0 d1 hy1 hy2 hml
      have HY1:Hid (Byt wr sa sl):=hy1
      have HY2:Hid (Byt wr ta sl):=hy2
      have HML:Hid (sl.length≤281474976710656):=hml
      have HC:Hid (wr.cell? ⟨b1,o1+k * 2,none⟩=some (.int .i64 sn)∧wr.cell? ⟨b1,o1+k * 2+1,none⟩=some (.slice sa sl.length sc)∧wr.cell? ⟨b2,o2+k * 2,none⟩=some (.int .i64 sn)∧wr.cell? ⟨b2,o2+k * 2+1,none⟩=some (.slice ta sl.length tc)):=⟨c0,c1,d0,d1⟩
      clear hy1 hy2 hml c0 c1 d0 d1
      go_wp2_with fail
      go_region_held3 (fun W=>W.cell? ⟨b1,o1+k * 2,none⟩=some (.int .i64 sn)∧W.cell? ⟨b1,o1+k * 2+1,none⟩=some (.slice sa sl.length sc)∧W.cell? ⟨b2,o2+k * 2,none⟩=some (.int .i64 sn)∧W.cell? ⟨b2,o2+k * 2+1,none⟩=some (.slice ta sl.length tc))
        (first | exact HC.out | exact HC8.out)
        (first
          | (go_at_call 11; refine (eqItem_yes sa ta sc tc sl sn _ (by exact HY1.out) (by exact HY2.out) HML.out).mono ?_; rintro e w8 ⟨rfl, hb8'⟩; have HB8 : Hid (Below w.heap.size w w8) := hbel.trans ((Below.drewS hb8').mono hbel.size); have HC8 : Hid (w8.cell? ⟨b1, o1 + k * 2, none⟩ = some (.int .i64 sn) ∧ w8.cell? ⟨b1, o1 + k * 2 + 1, none⟩ = some (.slice sa sl.length sc) ∧ w8.cell? ⟨b2, o2 + k * 2, none⟩ = some (.int .i64 sn) ∧ w8.cell? ⟨b2, o2 + k * 2 + 1, none⟩ = some (.slice ta sl.length tc)) := ⟨keep (Below.drewS hb8') hb1 HC.out.1, keep (Below.drewS hb8') hb1 HC.out.2.1, keep (Below.drewS hb8') hb2 HC.out.2.2.1, keep (Below.drewS hb8') hb2 HC.out.2.2.2⟩; clear hb8'))
      clear HC HC8
      go_wp2
      go_roundw
      case rel=>exact ⟨k+1,by omega,by go_num,HB8.out⟩
      case measure=>simp [intOf];omega
    · have hkn:k=n:=by omega
      subst hkn
      go_wp2
      go_ret
      exact ⟨rfl,hbel⟩

set_option maxHeartbeats 1600000 in
theorem eqPack_yes (E O:Int) (a b:Option Addr) (ca cb:Nat) (ss ts:List El) (w:World) (ha:Els true w a ss) (hb:Els true w b ts) (hct:ss.map El.ct=ts.map El.ct) (hx:FewI ss) :
    Calls Tryz.prog 10 #[.agg #[.int .i64 E,.int .i64 O,.slice a ss.length ca],.agg #[.int .i64 E,.int .i64 O,.slice b ss.length cb]] w fun e w'=>e=.returned (.bool true)∧Below w.heap.size w w':=by
  have hw:Below w.heap.size w ((w.alloc (Obj.cells #[Value.int IntKind.i64 E,Value.int IntKind.i64 O,Value.slice a ss.length ca] 32)).alloc (Obj.cells #[Value.int IntKind.i64 E,Value.int IntKind.i64 O,Value.slice b ss.length cb] 32)):=((Below.refl _ _).alloc (Nat.le_refl _) _).alloc (by simp) _
  have HE:=eqItemS_yes a b ca cb ss ts _ (ha.below hw (Nat.le_refl _)) (hb.below hw (Nat.le_refl _)) hct (by have:=hx.n;omega) (fun s hs=>by have:=hx.l s hs;omega)
  have hE:(E != E)=false:=by simp
  have hO:(O != O)=false:=by simp
  clear ha hb hct hx
  go_enter Tryz.func10,Tryz.ntmps10
  go_wp2_with fail
  refine HE.mono ?_
  clear HE
  rintro e w1 ⟨rfl,hb1⟩
  have HB1:Hid (Below w.heap.size w w1):=hw.trans (hb1.mono (by simp;omega))
  clear hw hb1
  go_wp2
  go_ret
  exact ⟨rfl,HB1.out⟩
end Go.Proofs.YtiabhcfcpkkhoaaGreatDoor
