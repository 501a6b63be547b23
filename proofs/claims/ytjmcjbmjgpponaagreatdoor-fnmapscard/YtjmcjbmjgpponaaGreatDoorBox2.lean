import Derived.Test.YtjmcjbmjgpponaaGreatDoorDrBy
set_option maxRecDepth 20000
set_option maxHeartbeats 16000000
namespace Go.Proofs.YtjmcjbmjgpponaaGreatDoor
open Go.RowKit
set_option linter.unusedVariables false
theorem Dr.belowBig {w0 w:World} {B R:Nat} {a:Option Addr} {bs:List Int} {cap:Nat} (h:Dr w0 w B R a bs cap) (n:Int) (hn:0<n) (hn2:n<=2147483648) :
  Calls Tryz.prog 42 #[.pointer (some ⟨R,0,none⟩),.int .i64 n] w fun e w'=>(∃ x:Int,0<=x/\x<n/\e=.returned (.int .i64 x))/\Dr w0 w' B R a bs cap/\Only (fun k=>k=R) w w':=by
 by_cases h256:n<=256
 ·exact h.below n hn h256
 ·have H:Hid (Dr w0 w B R a bs cap):=h
  clear h
  go_enter Tryz.func42,Tryz.ntmps42
  go_wp2_with fail
  refine H.out.byte.mono ?_;rintro e w1 ⟨⟨x1,a1,b1,rfl⟩,hd1,ho1⟩;have HD1:Hid _:=hd1;clear hd1 H;go_wp2_with fail
  refine HD1.out.byte.mono ?_;rintro e w2 ⟨⟨x2,a2,b2,rfl⟩,hd2,ho2⟩;have HD2:Hid _:=hd2;have HO2:Hid (Only (fun k=>k=R) w w2):=ho1.trans ho2
  clear hd2 HD1 ho1 ho2;go_wp2_with fail
  refine HD2.out.byte.mono ?_;rintro e w3 ⟨⟨x3,a3,b3,rfl⟩,hd3,ho3⟩;have HD3:Hid _:=hd3;have HO3:Hid (Only (fun k=>k=R) w w3):=HO2.out.trans ho3
  clear hd3 HD2 ho3 HO2;go_wp2_with fail
  refine HD3.out.byte.mono ?_;rintro e w4 ⟨⟨x4,a4,b4,rfl⟩,hd4,ho4⟩;have HD4:Hid _:=hd4;have HO4:Hid (Only (fun k=>k=R) w w4):=HO3.out.trans ho4
  clear hd4 HD3 ho4 HO3;go_wp2;go_ret;refine ⟨⟨_,?_,?_,rfl⟩,HD4.out,HO4.out⟩
  ·exact Int.emod_nonneg _ (by omega)
  ·exact Int.emod_lt_of_pos _ hn
set_option linter.unusedSimpArgs false
theorem Mine.ovbO {w:World} {B U:Nat} {a:Option Addr} {c:Nat} {zs:List Int} (h:Mine w B U a c zs):OVB w B (.slice a zs.length c) zs:=by
 rcases h with ⟨rfl,rfl,rfl⟩ | ⟨g,rfl,_,_,h⟩
 ·exact OVB.nil _ _
 ·exact h
theorem zgg {S T:Nat->Prop} {a b c:World} (h:Only S a b) (k:Only T b c) (hT:∀ i,T i->a.heap.size<=i):Only S a c:=
 ⟨k.os.trans h.os,k.tape.trans h.tape,k.output.trans h.output,Nat.le_trans h.size k.size,fun i hi hs=>(k.block i (Nat.lt_of_lt_of_le hi h.size) (fun ht=>by have:=hT i ht;omega)).trans (h.block i hi hs)⟩
theorem zni {ys:List Int} (hn:ys.length=64) (hr:∀ z ∈ ys,0<=z/\z<=255) {k:Nat} (hk:k<=3):1<=(pkV k ys).length/\(pkV k ys).length<=601:=by
 by_cases h1:k=1
 ·subst h1
  simp [pkV]
 ·refine ⟨?_,zns hr (zng hn hk (fun h=>absurd h h1))⟩
  unfold pkV
  simp only [h1,if_false]
  split
  ·simp
  ·simp
theorem Dr.block {w0 w:World} {B R:Nat} {a:Option Addr} {bs:List Int} {cap:Nat} (h:Dr w0 w B R a bs cap) :
  Calls Tryz.prog 46 #[.pointer (some ⟨R,0,none⟩)] w fun e w'=>∃ (a':Option Addr) (c':Nat) (ls:List Int),e=.returned (.slice a' 64 c')/\ls.length=64/\OVB w' w.heap.size (.slice a' 64 c') ls/\Dr w0 w' B R a bs cap/\Only (fun k=>k=R) w w':=by
 have H:Hid (Dr w0 w B R a bs cap):=h;clear h
 go_enter Tryz.func46,Tryz.ntmps46
 go_wp2_with fail
 refine (H.out.bytes4 64 (by omega)).mono ?_
 rintro e w1 ⟨a1,c1,ls,rfl,hl,hov,hd,ho⟩;have HF:Hid _:=And.intro hl (And.intro hov (And.intro hd ho));clear hl hov hd ho H;go_wp2;go_ret;exact ⟨a1,c1,ls,rfl,HF.out⟩
structure El where
 n:Int
 a:Option Addr
 c:Nat
 ls:List Int
def El.ct (e:El):Int × List Int:=(e.n,e.ls)
def de :El:=⟨0,none,0,[]⟩
def eW (p:Bool):Nat:=cond p 2 1
def eO (p:Bool):Nat:=cond p 1 0
def El.cells (p:Bool) (e:El):List Value:=cond p [.int .i64 e.n,.slice e.a e.ls.length e.c] [.slice e.a e.ls.length e.c]
structure rE (p:Bool) (e:El):Prop where
 lo:-9223372036854775808<=e.n
 hi:e.n<=9223372036854775807
 len:e.ls.length<=maxLen
 zero:p=false->e.n=0
structure LieE (p:Bool) (w:World) (b o:Nat) (e:El):Prop where
 c0:p=true->w.cell? ⟨b,o,none⟩=some (.int .i64 e.n)
 c1:w.cell? ⟨b,o+eO p,none⟩=some (.slice e.a e.ls.length e.c)
def Els (p:Bool) (w:World) (a:Option Addr) (es:List El):Prop:=
 (∀ e ∈ es,rE p e/\Byt w e.a e.ls)/\(0<es.length->∃ b off,a=some ⟨b,off,none⟩/\b<w.heap.size/\∀ i,i<es.length->LieE p w b (off+i*eW p) (es.getD i de))
theorem z1m {es:List El} {k:Nat} (hk:k<es.length):es.getD k de ∈ es:=by
 rw [List.getD_eq_getElem?_getD,List.getElem?_eq_getElem hk];exact List.getElem_mem hk
theorem zl2 {es:List El} {t:El} (h:t ∈ es):∃ i,i<es.length/\es.getD i de=t:=by
 obtain ⟨i,hi,rfl⟩:=List.mem_iff_getElem.1 h;exact ⟨i,hi,by rw [List.getD_eq_getElem?_getD,List.getElem?_eq_getElem hi];rfl⟩
theorem zoo {ss ts:List El} (h:ss.map El.ct=ts.map El.ct) (k:Nat):(ss.getD k de).ct=(ts.getD k de).ct:=by
 have:(ss.map El.ct).getD k de.ct=(ts.map El.ct).getD k de.ct:=by rw [h]
 simpa [List.getD_eq_getElem?_getD,List.getElem?_map,Option.getD_map] using this
theorem zfu {ss ts:List El} (h:ts.map El.ct=ss.map El.ct):ts.length=ss.length:=by have:=congrArg List.length h;simpa using this
theorem LieE.below {p:Bool} {w w':World} {b o:Nat} {e:El} {B:Nat} (h:LieE p w b o e) (hb:Below B w w') (hB:b<B):LieE p w' b o e:=
 ⟨fun hp=>keep hb hB (h.c0 hp),keep hb hB h.c1⟩
theorem Els.below {p:Bool} {w w':World} {a:Option Addr} {es:List El} {B:Nat} (h:Els p w a es) (hb:Below B w w') (hB:w.heap.size<=B):Els p w' a es:=by
 refine ⟨fun e he=>⟨(h.1 e he).1,(h.1 e he).2.below hb hB⟩,fun hz=>?_⟩
 obtain ⟨b,off,rfl,hlt,hc⟩:=h.2 hz;exact ⟨b,off,rfl,Nat.lt_of_lt_of_le hlt hb.size,fun i hi=>(hc i hi).below hb (by omega)⟩
theorem Els.pos {p:Bool} {w:World} {a:Option Addr} {es:List El} (h:Els p w a es) (i:Nat) (hi:i<es.length):∃ b off,a=some ⟨b,off,none⟩/\b<w.heap.size/\∀ i,i<es.length->LieE p w b (off+i*eW p) (es.getD i de):=h.2 (by omega)
theorem Els.at {p:Bool} {w:World} {a:Option Addr} {es:List El} (h:Els p w a es) (k:Nat) (hk:k<es.length):rE p (es.getD k de)/\Byt w (es.getD k de).a (es.getD k de).ls:=h.1 _ (z1m hk)
theorem Els.pen {w:World} {a:Option Addr} {es:List El} (h:Els true w a es) (k:Nat) (hk:k<es.length):∃ b off,a=some ⟨b,off,none⟩/\b<w.heap.size/\w.cell? ⟨b,off+k*2,none⟩=some (.int .i64 (es.getD k de).n)/\w.cell? ⟨b,off+k*2+1,none⟩=some (.slice (es.getD k de).a (es.getD k de).ls.length (es.getD k de).c)/\Byt w (es.getD k de).a (es.getD k de).ls/\rE true (es.getD k de):=by
 obtain ⟨b,off,rfl,hb,hc⟩:=h.pos k hk;have h0:=(hc k hk).c0 rfl;have h1:=(hc k hk).c1
 simp only [eW,eO,cond_true] at h0 h1
 exact ⟨b,off,rfl,hb,h0,h1,(h.at k hk).2,(h.at k hk).1⟩
theorem z2c (p:Bool) (e:El):(e.cells p).length=eW p:=by cases p <;> rfl
theorem zbl (p:Bool) (es:List El):∀ k,k<es.length->∀ j,j<eW p->(es.flatMap (El.cells p))[k*eW p+j]?=((es.getD k de).cells p)[j]?:=by
 induction es with
 | nil=>intro k hk;simp at hk
 | cons s es ih=>
  intro k hk j hj
  rw [List.flatMap_cons]
  cases k with
  | zero=>
   rw [Nat.zero_mul,Nat.zero_add,List.getElem?_append_left (by rw [z2c];exact hj)]
   rfl
  | succ k=>
   rw [List.getElem?_append_right (by rw [z2c,Nat.add_mul];omega),z2c,show (k+1)*eW p+j-eW p=k*eW p+j from by rw [Nat.add_mul];omega,ih k (by simpa using hk) j hj]
   rfl
structure Deep (w:World) (B:Nat) (es:List El):Prop where
 mine:∀ e ∈ es,Mine w B w.heap.size e.a e.c e.ls
 apart:(es.map El.a).Pairwise (fun x y=>∀ k,z06 x k->¬z06 y k)
section
variable {w w' : World} {B : Nat} {es : List El}
theorem Deep.nil (w:World) (B:Nat):Deep w B []:=⟨by simp,by simp⟩
theorem Mine.rowE {a:Option Addr} {U c k:Nat} {zs:List Int} (h:Mine w B U a c zs) (hr:z06 a k):B<=k/\k<U:=by
 obtain ⟨x,hx,rfl⟩:=hr;rcases h with ⟨h',_⟩ | ⟨g,h',g1,g2,_⟩
 ·rw [h'] at hx;cases hx
 ·rw [h'] at hx
  simp at hx
  rw [<-hx];exact ⟨g1,g2⟩
theorem Mine.stay {S:Nat->Prop} {a:Option Addr} {U c:Nat} {zs:List Int} (h:Mine w B U a c zs) (ho:Only S w w') (hs:∀ k,z06 a k->¬S k):Mine w' B U a c zs:=by
 rcases h with h | ⟨g,rfl,h1,h2,h⟩
 ·exact .inl h
 ·exact .inr ⟨g,rfl,h1,h2,h.only ho (hs g ⟨_,rfl,rfl⟩)⟩
theorem Deep.stay {S:Nat->Prop} (h:Deep w B es) (ho:Only S w w') (hs:∀ e ∈ es,∀ k,z06 e.a k->¬S k):Deep w' B es:=
 ⟨fun e he=>((h.mine e he).stay ho (hs e he)).mono nl ho.size,h.apart⟩
theorem Deep.below (h:Deep w B es) (hb:Below w.heap.size w w'):Deep w' B es:=h.stay (Only.ofBelow (S:=fun _=>False) hb nl) (by simp)
theorem Deep.weak {B':Nat} (h:Deep w B es) (hB:B'<=B):Deep w B' es:=⟨fun e he=>(h.mine e he).mono hB nl,h.apart⟩
theorem Deep.snoc {U:Nat} {e:El} (h:Deep w B es) (hm:Mine w U w.heap.size e.a e.c e.ls) (hU:∀ x ∈ es,∀ k,z06 x.a k->k<U) (hB:B<=U):Deep w B (es++[e]):=by
 refine ⟨?_,?_⟩
 ·intro x hx
  rcases List.mem_append.1 hx with hx | hx
  ·exact h.mine x hx
  ·simp at hx
   subst hx;exact hm.mono hB nl
 ·rw [List.map_append,List.pairwise_append]
  refine ⟨h.apart,by simp,?_⟩
  intro x hx y hy k hk hk2
  simp at hy
  subst hy;obtain ⟨z,hz,rfl⟩:=List.mem_map.1 hx;have h1:=hU z hz k hk;have h2:=(hm.rowE hk2).1
  omega
end
theorem zcd (ss:List El) (k:Nat) (h:k<ss.length):(ss.take (k+1)).map El.ct=(ss.take k).map El.ct++[(ss.getD k de).ct]:=by
 rw [List.take_succ_eq_append_getElem h,List.map_append]
 simp [List.getD_eq_getElem?_getD,List.getElem?_eq_getElem h]
theorem Deep.lt {w:World} {B:Nat} {es:List El} (h:Deep w B es):∀ x ∈ es,∀ k,z06 x.a k->k<w.heap.size:=fun x hx k hk=>((h.mine x hx).rowE hk).2
def zl :List El->Nat
 | []=>0
 | s :: ss=>s.ls.length+zl ss
theorem zaq (a b:List El):zl (a++b)=zl a+zl b:=by
 induction a with
 | nil=>simp [zl]
 | cons s a ih=>simp only [List.cons_append,zl,ih];omega
theorem z3j (ss:List El) (k:Nat) (h:k<ss.length):zl (ss.take (k+1))=zl (ss.take k)+(ss.getD k de).ls.length:=by
 rw [List.take_succ_eq_append_getElem h,zaq]
 simp [zl,List.getD_eq_getElem?_getD,List.getElem?_eq_getElem h]
theorem z5s (ss:List El) (k:Nat):zl (ss.take k)<=zl ss:=by
 have h1:=zaq (ss.take k) (ss.drop k);rw [List.take_append_drop] at h1
 omega
theorem zaw {s:El} {ss:List El} (h:s ∈ ss):s.ls.length<=zl ss:=by
 induction ss with
 | nil=>cases h
 | cons x ss ih=>
  rcases List.mem_cons.1 h with rfl | h
  ·simp only [zl];omega
  ·have:=ih h;simp only [zl];omega
theorem zkm (ss ts:List El) (h:ss.map El.ct=ts.map El.ct):zl ss=zl ts:=by
 induction ss generalizing ts with
 | nil=>cases ts with
  | nil=>rfl
  | cons t ts=>simp at h
 | cons s ss ih=>cases ts with
  | nil=>simp at h
  | cons t ts=>
   simp only [List.map_cons,List.cons.injEq] at h
   have h1:s.ls=t.ls:=by have:=congrArg Prod.snd h.1;exact this
   simp only [zl,h1,ih ts h.2]
structure OVt (w:World) (B:Nat) (v:Value) (es:List El):Prop where
 own:w.ownsRow B 39 (eW true) v es.length (es.flatMap (El.cells true))
section
variable {w w' : World} {B : Nat} {v : Value} {es : List El}
theorem OVt.nil (w:World) (B:Nat):OVt w B (.slice none 0 0) []:=⟨⟨by simp,.inl ⟨rfl,rfl⟩⟩⟩
theorem OVt.form (h:OVt w B v es):∃ (a:Option Addr) (c:Nat),v=.slice a es.length c:=by
 rcases h.own.2 with ⟨rfl,h0⟩ | ⟨g,cap,cur,rfl,_⟩
 ·exact ⟨none,0,by rw [h0]⟩
 ·exact ⟨_,_,rfl⟩
theorem OVt.blk (h:OVt w B v es) {k:Nat} (hk:v.ownBlock=some k):B<=k/\k<w.heap.size:=by
 rcases h.own.2 with ⟨rfl,h0⟩ | ⟨g,cap,cur,rfl,hg,hh,_⟩
 ·simp [Value.ownBlock] at hk
 ·simp [Value.ownBlock] at hk
  subst hk;exact ⟨hg,(Array.getElem?_eq_some_iff.1 hh).1⟩
theorem OVt.stay {S:Nat->Prop} (h:OVt w B v es) (ho:Only S w w') (hs:∀ k,v.ownBlock=some k->¬S k):OVt w' B v es:=by
 refine ⟨⟨h.own.1,?_⟩⟩;rcases h.own.2 with h' | ⟨g,cap,cur,rfl,hg,hh,r⟩
 ·exact .inl h'
 ·exact .inr ⟨g,cap,cur,rfl,hg,(ho.block g (Array.getElem?_eq_some_iff.1 hh).1 (hs g rfl)).trans hh,r⟩
theorem OVt.below (h:OVt w B v es) (hb:Below w.heap.size w w'):OVt w' B v es:=h.stay (Only.ofBelow (S:=fun _=>False) hb nl) (by simp)
theorem OVt.weak {B':Nat} (h:OVt w B v es) (hB:B'<=B):OVt w B' v es:=by
 refine ⟨⟨h.own.1,?_⟩⟩;rcases h.own.2 with h' | ⟨g,cap,cur,h',hg,r⟩
 ·exact .inl h'
 ·exact .inr ⟨g,cap,cur,h',by omega,r⟩
theorem OVt.cell (h:OVt w B v es) (k:Nat) (hk:k<es.length):∃ g cap,v=.slice (some ⟨g,0,none⟩) es.length cap/\B<=g/\g<w.heap.size/\(∀ i,w.frozen? ⟨g,i,none⟩=false)/\∀ i,i<es.length->LieE true w g (i*eW true) (es.getD i de):=by
 rcases h.own.2 with ⟨_,h0⟩ | ⟨g,cap,cur,rfl,hg,hh,r⟩
 ·omega
 ·refine ⟨g,cap,rfl,hg,(Array.getElem?_eq_some_iff.1 hh).1,fun i=>h.own.frozenAt i,fun i hi=>?_⟩
  have hp:i*eW true+eW true<=es.length*eW true:=by rw [show i*eW true+eW true=(i+1)*eW true from by rw [Nat.add_mul,Nat.one_mul]];exact Nat.mul_le_mul_right _ hi
  refine ⟨fun hp1=>?_,?_⟩
  ·have e0:=zbl true es i hi 0 (by simp [eW])
   rw [Nat.add_zero] at e0;rw [h.own.cellAt (i*eW true) (by simp [eW] at hp ⊢;omega),e0]
   rfl
  ·rw [h.own.cellAt (i*eW true+eO true) (by simp [eW,eO] at hp ⊢;omega),zbl true es i hi (eO true) (by simp [eW,eO])]
   rfl
theorem OVt.els {a:Option Addr} {n c:Nat} (h:OVt w B (.slice a n c) es) (hr:∀ e ∈ es,rE true e/\Byt w e.a e.ls):Els true w a es:=by
 refine ⟨hr,fun hz=>?_⟩
 obtain ⟨g,cap,e,h1,h2,_,h4⟩:=h.cell 0 hz
 simp at e
 obtain ⟨rfl,rfl,rfl⟩:=e;exact ⟨g,0,rfl,h2,fun i hi=>by rw [Nat.zero_add];exact h4 i hi⟩
theorem OVt.other (h:OVt w B v es) {a:Option Addr} {B' U c:Nat} {zs:List Int} (hm:Mine w B' U a c zs) {g:Nat} (hg:v.ownBlock=some g):¬z06 a g:=by
 rintro ⟨x,hx,hxg⟩;rcases hm with ⟨h',_⟩ | ⟨g',h',g1,g2,ho⟩
 ·rw [h'] at hx;cases hx
 ·rw [h'] at hx
  simp at hx
  rw [<-hx] at hxg
  simp at hxg
  subst hxg;rcases ho.1.2 with ⟨e,_⟩ | ⟨k,cap1,cur1,e,_,hh,_⟩
  ·simp at e
  ·obtain rfl:g'=k:=by simp at e;exact e.1
   rcases h.own.2 with ⟨e2,_⟩ | ⟨k2,cap2,cur2,e2,_,hh2,_⟩
   ·subst e2;simp [Value.ownBlock] at hg
   ·subst e2
    obtain rfl:k2=g':=by simpa [Value.ownBlock] using hg
    rw [hh] at hh2
    simp at hh2
end
theorem Tryz.infoItem :(Tryz.prog.info? 39).map (fun i=>(i.zero,i.size,i.bytes))=some (some (.agg #[.int .i64 0,.slice none 0 0]),2,32):=by kernel_rfl
structure CopT (w:World) (B:Nat) (v:Value) (ts ss:List El):Prop where
 ct:ts.map El.ct=ss.map El.ct
 row:OVt w B v ts
 deep:Deep w B ts
 rng:∀ e ∈ ts,rE true e
theorem CopT.stay {S:Nat->Prop} {w w':World} {B:Nat} {v:Value} {ts ss:List El} (h:CopT w B v ts ss) (ho:Only S w w') (hs:∀ k,B<=k->¬S k):CopT w' B v ts ss:=
 ⟨h.ct,h.row.stay ho (fun k hk=>hs k (h.row.blk hk).1),h.deep.stay ho (fun e he k hk=>hs k ((h.deep.mine e he).rowE hk).1),h.rng⟩
theorem CopT.weak {w:World} {B B':Nat} {v:Value} {ts ss:List El} (h:CopT w B v ts ss) (hB:B'<=B):CopT w B' v ts ss:=⟨h.ct,h.row.weak hB,h.deep.weak hB,h.rng⟩
structure ItI (w:World) (a:Option Addr) (es:List El):Prop where
 els:Els true w a es
 cap:∀ e ∈ es,e.ls.length<=e.c
theorem ItI.below {w w':World} {a:Option Addr} {es:List El} {B:Nat} (h:ItI w a es) (hb:Below B w w') (hB:w.heap.size<=B):ItI w' a es:=⟨h.els.below hb hB,h.cap⟩
structure Box3 (W:World) (b:Nat) (x y z:Value):Prop where
 c0:W.cell? ⟨b,0,none⟩=some x
 c1:W.cell? ⟨b,1,none⟩=some y
 c2:W.cell? ⟨b,2,none⟩=some z
 f0:W.frozen? ⟨b,0,none⟩=false
 f1:W.frozen? ⟨b,1,none⟩=false
 f2:W.frozen? ⟨b,2,none⟩=false
 lt:b<W.heap.size
theorem Box3.new (w:World) (x y z:Value) (T:TypeId):Box3 (w.alloc (Obj.cells #[x,y,z] T)) w.heap.size x y z:=⟨by simp,by simp,by simp,by simp,by simp,by simp,by simp⟩
theorem Box3.keep {W W':World} {b B:Nat} {x y z:Value} (h:Box3 W b x y z) (hb:Below B W W') (hB:b<B):Box3 W' b x y z:=
 ⟨kp hb hB h.c0,kp hb hB h.c1,kp hb hB h.c2,(hb.frozen (p:=⟨b,0,none⟩) hB).trans h.f0,(hb.frozen (p:=⟨b,1,none⟩) hB).trans h.f1,(hb.frozen (p:=⟨b,2,none⟩) hB).trans h.f2,Nat.lt_of_lt_of_le h.lt hb.size⟩
theorem Box3.step {W W':World} {b:Nat} {x y z:Value} (h:Box3 W b x y z) (hb:Below W.heap.size W W'):Box3 W' b x y z:=h.keep hb h.lt
theorem Box3.alloc {W:World} {b:Nat} {x y z:Value} (h:Box3 W b x y z) (o:Obj):Box3 (W.alloc o) b x y z:=h.keep ((Below.refl W.heap.size W).alloc nl o) h.lt
theorem Only.ofGrownT {w w':World} {row:Option Nat} (hg:w.grownBy w' row):Only (fun k=>row=some k) w w':=(Only.refl (fun k=>row=some k) w).grown hg (fun k hk=>.inl hk)
theorem z6y (w:World) (n:Int) (a:Option Addr) (L c:Nat) (T:TypeId) (e:El) (h0:e.n=n) (h1:e.a=a) (h2:e.ls.length=L) (h3:e.c=c):∀ j u,(e.cells true)[j]?=some u->(w.alloc (Obj.cells #[.int .i64 n,.slice a L c] T)).cell? ⟨w.heap.size,j,none⟩=some u:=by
 intro j u hu
 subst h0 h1 h2 h3
 cases j with
 | zero=>simp [El.cells] at hu;simp [hu]
 | succ j=>
  cases j with
  | zero=>simp [El.cells] at hu;simp [hu]
  | succ j=>simp [El.cells] at hu
theorem z3g {o:Oper} {a:Act} {w:World} {K:Act->World->Prop} {Q:Exit->Act->World->Prop} (s x:Operand) (ho:o.op=.call { callee:=.builtin .append,args:=#[s,x],argTypes:=#[23,23] })
  (B:Nat) (v:Value) (es:List El) (hs:a.eval s=v) (hown:OVt w B v es) (X c:Nat) (e:El) (hx:a.eval x=.slice (some ⟨X,0,none⟩) 1 c) (hX:∀ j u,(e.cells true)[j]?=some u->w.cell? ⟨X,j,none⟩=some u) (hb1:es.length<=1000000) (hbase:B<=w.heap.size)
  (h:∀ v' w',OVt w' B v' (es++[e])->w.grownBy w' v.ownBlock->K (a.put o.dst v') w'):o.wp Tryz.prog a w K Q:=by
 obtain ⟨i0,hi,hz0,hz1,hz2⟩:=info_parts Tryz.infoItem;obtain ⟨v',w',hr,h2,h3,_,_⟩:=run_append_own_at (P:=Tryz.prog) w B 23 o.type 39 i0 _ (eW true) 32 Tryz.underlying23 hi hz0 hz1 hz2 rfl (by simp [eW]) v es.length _ hown.own ⟨X,0,none⟩ 1 c (e.cells true) (by rw [z2c,Nat.one_mul]) (fun j u hu=>by rw [z4u,Nat.zero_add];exact hX j u hu) (by
  intro u hu
  simp [El.cells] at hu
  rcases hu with rfl | rfl <;> rfl) (by unfold maxLen;omega) (by omega) hbase
 unfold Oper.wp execOp
 simp only [ho,resolve,invoke,builtin,Sem.run_bind,Sem.run_pure,Result.andThen_ok,List.map_toArray,List.map_cons,List.map_nil,hs,hx,hr]
 refine h v' w' ⟨?_⟩ h3;rw [List.length_append,List.flatMap_append]
 simpa using h2
theorem z7m {ops:Array Oper} {rest:List Oper} {o:Oper} {a:Act} {Q:Exit->Act->World->Prop} {w:World} (hgd:o.guard=none) (s x:Operand) (ho:o.op=.call { callee:=.builtin .append,args:=#[s,x],argTypes:=#[23,23] })
  (B:Nat) (v:Value) (es:List El) (hs:a.eval s=v) (hown:OVt w B v es) (X c:Nat) (e:El) (hx:a.eval x=.slice (some ⟨X,0,none⟩) 1 c) (hX:∀ j u,(e.cells true)[j]?=some u->w.cell? ⟨X,j,none⟩=some u) (hb1:es.length<=1000000) (hbase:B<=w.heap.size)
  (h:∀ v' w',OVt w' B v' (es++[e])->w.grownBy w' v.ownBlock->wpList Tryz.prog ops Q rest (a.put o.dst v') w'):wpList Tryz.prog ops Q (o :: rest) a w:=by
 refine wpList_plain hgd fun K hK'=>?_
 exact z3g s x ho B v es hs hown X c e hx hX hb1 hbase (fun v' w' h1 h2=>hK' _ _ (h v' w' h1 h2))
theorem Box3.set2 {W:World} {b:Nat} {x y z:Value} (h:Box3 W b x y z) (u:Value):Box3 (W.setCell ⟨b,2,none⟩ u) b x y u:=by
 obtain ⟨h0,h1,h2,h3,h4,h5,h6⟩:=h;exact ⟨(World.cell?_setCell_other W _ _ _ (by simp)).trans h0,(World.cell?_setCell_other W _ _ _ (by simp)).trans h1,World.cell?_setCell_same W _ _ h2,by simp [h3],by simp [h4],by simp [h5],by simpa using h6⟩
theorem Box3.other {W:World} {b:Nat} {x y z:Value} (h:Box3 W b x y z) {p:Addr} (hp:p.block≠b) (u:Value):Box3 (W.setCell p u) b x y z:=by
 obtain ⟨h0,h1,h2,h3,h4,h5,h6⟩:=h;have ne:∀ o:Nat,p≠⟨b,o,none⟩:=fun o e=>hp (by rw [e])
 exact ⟨(World.cell?_setCell_other W _ _ _ (ne 0)).trans h0,(World.cell?_setCell_other W _ _ _ (ne 1)).trans h1,(World.cell?_setCell_other W _ _ _ (ne 2)).trans h2,by simpa using h3,by simpa using h4,by simpa using h5,by simpa using h6⟩
structure CpP (w W:World) (X:Nat) (E O:Int) (u:Value) (fs:List El):Prop where
 bel:Below w.heap.size w W
 hX:w.heap.size<=X
 row:OVt W (X+1) u fs
 box:Box3 W X (.int .i64 E) (.int .i64 O) u
section
variable {w W W' w2 w3 : World} {X : Nat} {E O : Int} {u v' : Value} {fs : List El} {e : El} {ob : Obj}
theorem CpP.step (h:CpP w W X E O u fs) (hb:Below W.heap.size W W'):CpP w W' X E O u fs:=⟨h.bel.trans (hb.mono h.bel.size),h.hX,h.row.below hb,h.box.step hb⟩
theorem CpP.mid (h:CpP w W X E O u fs) (hb:Below W.heap.size W w2):Below W.heap.size W (w2.alloc ob)/\X+1<=(w2.alloc ob).heap.size:=by
 have hba:Bw w2 (w2.alloc ob):=bAw;have hlt:=h.box.lt;have hs2:=hb.size;exact ⟨hb.trans (hba.mono hs2),by simp;omega⟩
theorem CpP.more (h:CpP w W X E O u fs) (hb:Below W.heap.size W w2) (hov:OVt w3 (X+1) v' (fs++[e])) (hg:(w2.alloc ob).grownBy w3 u.ownBlock) :
  CpP w (w3.setCell ⟨X,2,none⟩ v') X E O v' (fs++[e])/\Below (X+1) W w3:=by
 obtain ⟨hb2,hx2⟩:=h.mid (ob:=ob) hb;have hx:=h.hX;have hlt:=h.box.lt;have hr2:=h.row.below hb2;have hbw:Below (X+1) W w3:=(hb2.mono (by omega)).grown hg hx2 (fun k hk=>(hr2.blk hk).1)
 have hon:Only (fun b=>b=X) w3 (w3.setCell ⟨X,2,none⟩ v'):=(Only.refl (fun b=>b=X) w3).setCell (p:=⟨X,2,none⟩) (.inl rfl) _
 exact ⟨⟨(h.bel.trans (hbw.mono (by omega))).setCell (p:=⟨X,2,none⟩) hx _,hx,hov.stay hon (fun b hb e=>by have:=(hov.blk hb).1;omega),(h.box.keep hbw (by omega)).set2 _⟩,hbw⟩
theorem CpP.deep (h:CpP w W X E O u fs) (hd:Deep W (X+1) fs) (hb:Below W.heap.size W w2) (hm:Mine w2 W.heap.size w2.heap.size e.a e.c e.ls) (hg:(w2.alloc ob).grownBy w3 u.ownBlock) :
  Deep (w3.setCell ⟨X,2,none⟩ v') (X+1) (fs++[e]):=by
 obtain ⟨hb2,hx2⟩:=h.mid (ob:=ob) hb;have hba:Below w2.heap.size w2 (w2.alloc ob):=bAw;have hlt:=h.box.lt;have hd2:Deep (w2.alloc ob) (X+1) (fs++[e]):=((hd.below hb).snoc (U:=W.heap.size) hm (fun x hx k hk=>hd.lt x hx k hk) (by omega)).below hba
 have hr2:=h.row.below hb2;have hd3:Deep w3 (X+1) (fs++[e]):=hd2.stay (Only.ofGrownT hg) (fun x hx k hk e=>hr2.other (hd2.mine x hx) e hk)
 have hon:Only (fun b=>b=X) w3 (w3.setCell ⟨X,2,none⟩ v'):=(Only.refl (fun b=>b=X) w3).setCell (p:=⟨X,2,none⟩) (.inl rfl) _
 exact hd3.stay hon (fun x hx b hb e=>by have:=((hd3.mine x hx).rowE hb).1;omega)
end
theorem zpa {ss ts:List El} (h:ts.map El.ct=ss.map El.ct) (hr:∀ e ∈ ss,rE true e):∀ e ∈ ts,rE true e:=by
 intro e he
 obtain ⟨i,hi,rfl⟩:=zl2 he;have hl:=zfu h;have h1:=zoo h i;have h2:=hr _ (z1m (es:=ss) (k:=i) (by omega))
 have hn:(ts.getD i de).n=(ss.getD i de).n:=congrArg Prod.fst h1;have hls:(ts.getD i de).ls=(ss.getD i de).ls:=congrArg Prod.snd h1;exact ⟨by rw [hn];exact h2.lo,by rw [hn];exact h2.hi,by rw [hls];exact h2.len,by simp⟩
structure Box2 (W:World) (b:Nat) (x y:Value):Prop where
 c0:W.cell? ⟨b,0,none⟩=some x
 c1:W.cell? ⟨b,1,none⟩=some y
 f0:W.frozen? ⟨b,0,none⟩=false
 f1:W.frozen? ⟨b,1,none⟩=false
 lt:b<W.heap.size
theorem Box2.new (w:World) (x y:Value) (T:TypeId):Box2 (w.alloc (Obj.cells #[x,y] T)) w.heap.size x y:=⟨by simp,by simp,by simp,by simp,by simp⟩
theorem Box2.keep {W W':World} {b B:Nat} {x y:Value} (h:Box2 W b x y) (hb:Below B W W') (hB:b<B):Box2 W' b x y:=
 ⟨kp hb hB h.c0,kp hb hB h.c1,(hb.frozen (p:=⟨b,0,none⟩) hB).trans h.f0,(hb.frozen (p:=⟨b,1,none⟩) hB).trans h.f1,Nat.lt_of_lt_of_le h.lt hb.size⟩
theorem Box2.alloc {W:World} {b:Nat} {x y:Value} (h:Box2 W b x y) (o:Obj):Box2 (W.alloc o) b x y:=h.keep ((Below.refl W.heap.size W).alloc nl o) h.lt
theorem z5l {S:Nat->Prop} {w w':World} (h:Only S w w') {b o:Nat} (hb:b<w.heap.size) (hs:¬S b):w'.frozen? ⟨b,o,none⟩=w.frozen? ⟨b,o,none⟩:=by
 simp only [World.frozen?,h.block b hb hs]
theorem Box2.only {S:Nat->Prop} {W W':World} {b:Nat} {x y:Value} (h:Box2 W b x y) (ho:Only S W W') (hs:¬S b):Box2 W' b x y:=
 ⟨ho.cell h.lt hs h.c0,ho.cell h.lt hs h.c1,(z5l ho h.lt hs).trans h.f0,(z5l ho h.lt hs).trans h.f1,Nat.lt_of_lt_of_le h.lt ho.size⟩
theorem Box2.other {W:World} {b:Nat} {x y:Value} (h:Box2 W b x y) {p:Addr} (hp:p.block≠b) (u:Value):Box2 (W.setCell p u) b x y:=
 h.only (S:=fun k=>k=p.block) ((Only.refl (fun k=>k=p.block) W).setCell (.inl rfl) u) (fun e=>hp e.symm)
end Go.Proofs.YtjmcjbmjgpponaaGreatDoor
