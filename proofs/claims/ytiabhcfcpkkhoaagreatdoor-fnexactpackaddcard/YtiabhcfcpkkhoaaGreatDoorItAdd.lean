/-
  Packs with one item more: l7add of the model, with of the program. (Typed by wip/mkadd.py.)
-/
import Derived.Test.YtiabhcfcpkkhoaaGreatDoorElC
import Derived.Test.YtiabhcfcpkkhoaaGreatDoorItOwn
import Derived.Test.YtiabhcfcpkkhoaaGreatDoorDcI
namespace Go.Proofs.YtiabhcfcpkkhoaaGreatDoor
open Go.RowKit
set_option linter.unusedVariables false

structure Box2 (W:World) (b:Nat) (x y:Value):Prop where
  c0:W.cell? ⟨b,0,none⟩=some x
  c1:W.cell? ⟨b,1,none⟩=some y
  f0:W.frozen? ⟨b,0,none⟩=false
  f1:W.frozen? ⟨b,1,none⟩=false
  lt:b<W.heap.size
theorem Box2.new (w:World) (x y:Value) (T:TypeId):Box2 (w.alloc (Obj.cells #[x,y] T)) w.heap.size x y:=⟨by simp,by simp,by simp,by simp,by simp⟩
theorem Box2.keep {W W':World} {b B:Nat} {x y:Value} (h:Box2 W b x y) (hb:Below B W W') (hB:b<B):Box2 W' b x y:=
  ⟨Go.Proofs.YtiabhcfcpkkhoaaGreatDoor.keep hb hB h.c0,Go.Proofs.YtiabhcfcpkkhoaaGreatDoor.keep hb hB h.c1,(hb.frozen (p:=⟨b,0,none⟩) hB).trans h.f0,(hb.frozen (p:=⟨b,1,none⟩) hB).trans h.f1,Nat.lt_of_lt_of_le h.lt hb.size⟩
theorem Box2.alloc {W:World} {b:Nat} {x y:Value} (h:Box2 W b x y) (o:Obj):Box2 (W.alloc o) b x y:=h.keep ((Below.refl W.heap.size W).alloc (Nat.le_refl _) o) h.lt
theorem frozO {S:Nat→Prop} {w w':World} (h:Only S w w') {b o:Nat} (hb:b<w.heap.size) (hs:¬ S b):w'.frozen? ⟨b,o,none⟩=w.frozen? ⟨b,o,none⟩:=by
  simp only [World.frozen?,h.block b hb hs]
theorem Box2.only {S:Nat→Prop} {W W':World} {b:Nat} {x y:Value} (h:Box2 W b x y) (ho:Only S W W') (hs:¬ S b):Box2 W' b x y:=
  ⟨ho.cell h.lt hs h.c0,ho.cell h.lt hs h.c1,(frozO ho h.lt hs).trans h.f0,(frozO ho h.lt hs).trans h.f1,Nat.lt_of_lt_of_le h.lt ho.size⟩
theorem Box2.other {W:World} {b:Nat} {x y:Value} (h:Box2 W b x y) {p:Addr} (hp:p.block≠b) (u:Value):Box2 (W.setCell p u) b x y:=
  h.only (S:=fun k=>k=p.block) ((Only.refl (fun k=>k=p.block) W).setCell (.inl rfl) u) (fun e=>hp e.symm)
theorem Box2.set0 {W:World} {b:Nat} {x y:Value} (h:Box2 W b x y) (u:Value):Box2 (W.setCell ⟨b,0,none⟩ u) b u y:=by
  obtain ⟨h0,h1,h2,h3,h4⟩:=h
  exact ⟨World.cell?_setCell_same W _ _ h0,(World.cell?_setCell_other W _ _ _ (by simp)).trans h1,by simp [h2],by simp [h3],by simpa using h4⟩
theorem Box2.set1 {W:World} {b:Nat} {x y:Value} (h:Box2 W b x y) (u:Value):Box2 (W.setCell ⟨b,1,none⟩ u) b x u:=by
  obtain ⟨h0,h1,h2,h3,h4⟩:=h
  exact ⟨(World.cell?_setCell_other W _ _ _ (by simp)).trans h0,World.cell?_setCell_same W _ _ h1,by simp [h2],by simp [h3],by simpa using h4⟩
set_option linter.unusedSimpArgs false
def butL (x:Int) (es:List El):List El:=es.filter (fun e=>e.n != x)
def addL (es:List El) (q:El):List El:=butL q.n es++[q]
theorem butL_succ (x:Int) (es:List El) (k:Nat) (h:k<es.length):butL x (es.take (k+1))=if (es.getD k de).n=x then butL x (es.take k) else butL x (es.take k)++[es.getD k de]:=by
  have e:es.getD k de=es[k]:=by rw [List.getD_eq_getElem?_getD,List.getElem?_eq_getElem h];rfl
  unfold butL
  rw [List.take_succ_eq_append_getElem h,List.filter_append,e]
  by_cases hx:es[k].n=x
  · rw [if_pos hx]
    simp [hx]
  · rw [if_neg hx]
    simp [hx]
theorem butL_len (x:Int) (es:List El):(butL x es).length≤es.length:=List.length_filter_le _ _

structure AdP (w W:World) (E O:Int) (a:Option Addr) (n cap:Nat) (q:El) (u:Value) (fs:List El):Prop where
  cp:CpP w W (w.heap.size+1+1+1) E O u fs
  bx:Box3 W w.heap.size (.int .i64 E) (.int .i64 O) (.slice a n cap)
  bq:Box2 W (w.heap.size+1) (.int .i64 q.n) (.slice q.a q.ls.length q.c)
  by':Box3 W (w.heap.size+1+1) (.int .i64 0) (.int .i64 0) (.slice none 0 0)
theorem AdP.start (w:World) (E O:Int) (a:Option Addr) (n cap:Nat) (q:El) (T T1 T2 T3:TypeId):AdP w ((((w.alloc (Obj.cells #[Value.int IntKind.i64 E,Value.int IntKind.i64 O,Value.slice a n cap] T)).alloc (Obj.cells #[Value.int IntKind.i64 q.n,Value.slice q.a q.ls.length q.c] T1)).alloc (Obj.cells #[Value.int IntKind.i64 0,Value.int IntKind.i64 0,Value.slice none 0 0] T2)).alloc (Obj.cells #[Value.int IntKind.i64 E,Value.int IntKind.i64 O,Value.slice none 0 0] T3)) E O a n cap q (.slice none 0 0) []:=by
  have h1:=(((Box3.new w (.int .i64 E) (.int .i64 O) (.slice a n cap) T).alloc (Obj.cells #[Value.int IntKind.i64 q.n,Value.slice q.a q.ls.length q.c] T1)).alloc (Obj.cells #[Value.int IntKind.i64 0,Value.int IntKind.i64 0,Value.slice none 0 0] T2)).alloc (Obj.cells #[Value.int IntKind.i64 E,Value.int IntKind.i64 O,Value.slice none 0 0] T3)
  have h0:=((Box2.new (w.alloc (Obj.cells #[Value.int IntKind.i64 E,Value.int IntKind.i64 O,Value.slice a n cap] T)) (.int .i64 q.n) (.slice q.a q.ls.length q.c) T1).alloc (Obj.cells #[Value.int IntKind.i64 0,Value.int IntKind.i64 0,Value.slice none 0 0] T2)).alloc (Obj.cells #[Value.int IntKind.i64 E,Value.int IntKind.i64 O,Value.slice none 0 0] T3)
  have h2:=(Box3.new ((w.alloc (Obj.cells #[Value.int IntKind.i64 E,Value.int IntKind.i64 O,Value.slice a n cap] T)).alloc (Obj.cells #[Value.int IntKind.i64 q.n,Value.slice q.a q.ls.length q.c] T1)) (.int .i64 0) (.int .i64 0) (.slice none 0 0) T2).alloc (Obj.cells #[Value.int IntKind.i64 E,Value.int IntKind.i64 O,Value.slice none 0 0] T3)
  have h3:=Box3.new (((w.alloc (Obj.cells #[Value.int IntKind.i64 E,Value.int IntKind.i64 O,Value.slice a n cap] T)).alloc (Obj.cells #[Value.int IntKind.i64 q.n,Value.slice q.a q.ls.length q.c] T1)).alloc (Obj.cells #[Value.int IntKind.i64 0,Value.int IntKind.i64 0,Value.slice none 0 0] T2)) (.int .i64 E) (.int .i64 O) (.slice none 0 0) T3
  simp only [World.size_alloc] at h0 h2 h3
  exact ⟨⟨((((Below.refl _ _).alloc (Nat.le_refl _) _).alloc (by simp) _).alloc (by simp;omega) _).alloc (by simp;omega) _,by omega,OVt.nil _ _,h3⟩,h1,h0,h2⟩
theorem AdP.step {w W W':World} {E O:Int} {a:Option Addr} {n cap:Nat} {q:El} {u:Value} {fs:List El} (h:AdP w W E O a n cap q u fs) (hb:Below W.heap.size W W'):AdP w W' E O a n cap q u fs:=⟨h.cp.step hb,h.bx.step hb,h.bq.keep hb h.bq.lt,h.by'.step hb⟩
theorem AdP.more {w W w2 w3:World} {E O:Int} {a:Option Addr} {n cap:Nat} {q:El} {u v':Value} {fs:List El} {e:El} {ob:Obj} (h:AdP w W E O a n cap q u fs) (hb:Below W.heap.size W w2) (hov:OVt w3 (w.heap.size+1+1+1+1) v' (fs++[e])) (hg:(w2.alloc ob).grownBy w3 u.ownBlock) :
    AdP w (w3.setCell ⟨w.heap.size+1+1+1,2,none⟩ v') E O a n cap q v' (fs++[e])∧Below (w.heap.size+1+1+1+1) W w3:=by
  obtain ⟨h1,h2⟩:=h.cp.more hb hov hg
  exact ⟨⟨h1,(h.bx.keep h2 (by omega)).other (by simp;omega) _,(h.bq.keep h2 (by omega)).other (by simp;omega) _,(h.by'.keep h2 (by omega)).other (by simp) _⟩,h2⟩
def AdA (E O:Int) (es:List El) (q:El) (w:World) (r:Ending) (w':World):Prop:=(∃ v,r=.returned (.agg #[.int .i64 E,.int .i64 O,v])∧OVt w' w.heap.size v (addL es q))∧Below w.heap.size w w'
theorem AdP.last {w W:World} {E O:Int} {a:Option Addr} {n cap:Nat} {q:El} {u:Value} {es:List El} (h:AdP w W E O a n cap q u (addL es q)) :
    AdA E O es q w (.returned (.agg #[.int .i64 E,.int .i64 O,u])) (((W.setCell ⟨w.heap.size+1+1,0,none⟩ (.int .i64 E)).setCell ⟨w.heap.size+1+1,1,none⟩ (.int .i64 O)).setCell ⟨w.heap.size+1+1,2,none⟩ u):=by
  have hon:Only (fun b=>b=w.heap.size+1+1) W (((W.setCell ⟨w.heap.size+1+1,0,none⟩ (.int .i64 E)).setCell ⟨w.heap.size+1+1,1,none⟩ (.int .i64 O)).setCell ⟨w.heap.size+1+1,2,none⟩ u):=
    (((Only.refl (fun b=>b=w.heap.size+1+1) W).setCell (p:=⟨w.heap.size+1+1,0,none⟩) (.inl rfl) _).setCell (p:=⟨w.heap.size+1+1,1,none⟩) (.inl rfl) _).setCell (p:=⟨w.heap.size+1+1,2,none⟩) (.inl rfl) _
  exact ⟨⟨u,rfl,(h.cp.row.stay hon (fun k hk e=>by have:=(h.cp.row.blk hk).1;omega)).weak (by omega)⟩,h.cp.bel.trans (hon.below (by have:=h.cp.bel.size;omega) (by intro k hk;omega))⟩

set_option maxRecDepth 20000 in
set_option maxHeartbeats 8000000 in
theorem with7_any (E O:Int) (a:Option Addr) (cap:Nat) (es:List El) (xn:Int) (xa:Option Addr) (xc:Nat) (xl:List Int) (w:World) (hb:Els true w a es) (hn:es.length≤1000) :
    Calls Tryz.prog 26 #[.agg #[.int .i64 E,.int .i64 O,.slice a es.length cap],.agg #[.int .i64 xn,.slice xa xl.length xc]] w (AdA E O es ⟨xn,xa,xc,xl⟩ w):=by
  have HB:Hid (Els true w a es):=hb
  have HSU:Hid _:=butL_succ xn es
  have HLE:Hid (∀ k,(butL xn (es.take k)).length≤es.length):=fun k=>Nat.le_trans (butL_len xn _) (by simp;omega)
  clear hb
  generalize hlen:es.length=n at *
  have HLN:Hid (es.length=n∧True):=⟨hlen,trivial⟩
  clear hlen
  have HS0:Hid _:=AdP.start w E O a n cap ⟨xn,xa,xc,xl⟩ 32 36 32 32
  go_enter Tryz.func26,Tryz.ntmps26
  go_wp2
  go_loopw [16] (fun i wr=>∃ (k:Nat) (u:Value) (fs:List El),k≤n∧i=.int .i64 k∧fs=butL xn (es.take k)∧AdP w wr E O a n cap ⟨xn,xa,xc,xl⟩ u fs) (fun i _=>n - (intOf i).toNat)
  case atStart=>exact ⟨0,_,[],Nat.zero_le _,rfl,by simp [butL],HS0.out⟩
  case round=>
    clear HS0
    obtain ⟨k,u,fs,hk,rfl,hfs,hop⟩:=hrel
    have HST:Hid (fs=butL xn (es.take k)∧fs.length≤1000):=⟨hfs,by rw [hfs];have:=HLE.out k;omega⟩
    have hk1:=HST.out.2
    clear hfs
    obtain ⟨fa,fc,rfl⟩:=hop.cp.row.form
    have HOP:Hid (AdP w wr E O a n cap ⟨xn,xa,xc,xl⟩ (.slice fa fs.length fc) fs):=hop
    obtain ⟨c0,c1,c2,f0,f1,f2,hlX⟩:=hop.cp.box
    obtain ⟨x0,x1,x2,-,-,-,xbl⟩:=hop.bx
    obtain ⟨q0,q1,-,-,ql⟩:=hop.bq
    obtain ⟨r0,r1,r2,g0,g1,g2,rl⟩:=hop.by'
    simp only at q0 q1
    have hbel:=hop.cp.bel
    clear hop
    by_cases hlt:k<n
    · obtain ⟨b,off,rfl,hbl,d0,d1,hby,hrg⟩:=(HB.out.below hbel (Nat.le_refl _)).pen k (by rw [HLN.out.1];exact hlt)
      have hbw:b<w.heap.size:=by
        obtain ⟨b',o',e',h',_⟩:=HB.out.pen k (by rw [HLN.out.1];exact hlt)
        simp at e'
        omega
      have hsu:=HSU.out k hlt
      clear hby hrg hbel
      generalize es.getD k de=s at *
      obtain ⟨sn,a2,c2',sl⟩:=s
      simp only at d0 d1
      have hba:Below wr.heap.size wr (wr.alloc (Obj.cells #[Value.int IntKind.i64 sn,Value.slice a2 sl.length c2'] 36)):=(Below.refl _ _).alloc (Nat.le_refl _) _
      have HOP1:Hid (AdP w (wr.alloc (Obj.cells #[Value.int IntKind.i64 sn,Value.slice a2 sl.length c2'] 36)) E O (some ⟨b,off,none⟩) n cap ⟨xn,xa,xc,xl⟩ (.slice fa fs.length fc) fs):=HOP.out.step hba
      have m0:(wr.alloc (Obj.cells #[Value.int IntKind.i64 sn,Value.slice a2 sl.length c2'] 36)).cell? ⟨w.heap.size+1,0,none⟩=some (.int .i64 xn):=keepA _ ql q0
      have m2:(wr.alloc (Obj.cells #[Value.int IntKind.i64 sn,Value.slice a2 sl.length c2'] 36)).cell? ⟨w.heap.size+1+1+1,2,none⟩=some (.slice fa fs.length fc):=keepA _ hlX c2
      have i0:(wr.alloc (Obj.cells #[Value.int IntKind.i64 sn,Value.slice a2 sl.length c2'] 36)).cell? ⟨wr.heap.size,0,none⟩=some (.int .i64 sn):=by simp
      have i1:(wr.alloc (Obj.cells #[Value.int IntKind.i64 sn,Value.slice a2 sl.length c2'] 36)).cell? ⟨wr.heap.size,1,none⟩=some (.slice a2 sl.length c2'):=by simp
      have hsz1:wr.heap.size<(wr.alloc (Obj.cells #[Value.int IntKind.i64 sn,Value.slice a2 sl.length c2'] 36)).heap.size:=by simp
      by_cases hx:sn=xn
      · have hx2:(sn != xn)=false:=by simpa using hx
        have HN:Hid (fs=butL xn (es.take (k+1))∧True):=⟨by rw [hsu,if_pos hx];exact HST.out.1,trivial⟩
        clear hsu hx HOP
        go_wp2
        go_roundw
        case rel=>exact ⟨k+1,_,fs,by omega,by go_num,HN.out.1,HOP1.out⟩
        case measure=>simp [intOf];omega
      · have hx2:(sn != xn)=true:=by simpa using hx
        have HN:Hid (fs++[(⟨sn,a2,c2',sl⟩:El)]=butL xn (es.take (k+1))∧True):=⟨by rw [hsu,if_neg hx,← HST.out.1],trivial⟩
        clear hsu hx HOP
        go_wp2_with (at_builtin;(refine wpList_append_it rfl (.tmp 26) (.tmp 28) rfl (w.heap.size+1+1+1+1) (.slice fa fs.length fc) fs (by simp [Act.eval]) (HOP1.out.cp.row.below ((Below.refl _ _).alloc (Nat.le_refl _) _)) (wr.alloc (Obj.cells #[Value.int IntKind.i64 sn,Value.slice a2 sl.length c2'] 36)).heap.size 1 ⟨sn,a2,c2',sl⟩ (by simp [Act.eval]) (newsT (wr.alloc (Obj.cells #[Value.int IntKind.i64 sn,Value.slice a2 sl.length c2'] 36)) sn _ sl.length c2' 36 _ rfl rfl rfl rfl) (by omega) (by simp <;> omega) ?_;intro v3 w3 hov3 hg3;obtain ⟨sa3,sc3,hv3⟩:=hov3.form;rw [List.length_append,List.length_singleton] at hv3;subst hv3;have HM:Hid _:=HOP1.out.more (Below.refl _ _) hov3 hg3;have e2:=keep HM.out.2 (by omega) m2;have h0:=(HM.out.2.frozen (p:=⟨w.heap.size+1+1+1,2,none⟩) (by simp)).trans (HOP1.out.cp.box.f2);clear hov3 hg3))
        have hmo:=HM.out.1
        rw [HN.out.1] at hmo
        have HMO:Hid _:=hmo
        clear hmo
        go_roundw
        case rel=>exact ⟨k+1,_,_,by omega,by go_num,rfl,HMO.out⟩
        case measure=>simp [intOf];omega
    · have hkn:k=n:=by omega
      subst hkn
      have HAD:Hid (fs++[(⟨xn,xa,xc,xl⟩:El)]=addL es ⟨xn,xa,xc,xl⟩∧True):=⟨by rw [HST.out.1,List.take_of_length_le (by rw [HLN.out.1];exact Nat.le_refl _)];rfl,trivial⟩
      clear hbel HSU HLE
      go_wp2_with (at_builtin;(refine wpList_append_it rfl (.tmp 33) (.tmp 35) rfl (w.heap.size+1+1+1+1) (.slice fa fs.length fc) fs (by simp [Act.eval]) (HOP.out.cp.row.below ((Below.refl _ _).alloc (Nat.le_refl _) _)) wr.heap.size 1 ⟨xn,xa,xc,xl⟩ (by simp [Act.eval]) (newsT wr xn _ xl.length xc 36 _ rfl rfl rfl rfl) (by omega) (by simp <;> omega) ?_;intro v3 w3 hov3 hg3;obtain ⟨sa3,sc3,hv3⟩:=hov3.form;rw [List.length_append,List.length_singleton] at hv3;subst hv3;have HM:Hid _:=HOP.out.more (Below.refl _ _) hov3 hg3;have e0:=keep HM.out.2 (by omega) c0;have e1:=keep HM.out.2 (by omega) c1;have e2:=keep HM.out.2 (by omega) c2;have s0:=keep HM.out.2 (by omega) r0;have s1:=keep HM.out.2 (by omega) r1;have s2:=keep HM.out.2 (by omega) r2;have h0:=(HM.out.2.frozen (p:=⟨w.heap.size+1+1+1,2,none⟩) (by simp)).trans f2;have h1:=(HM.out.2.frozen (p:=⟨w.heap.size+1+1,0,none⟩) (by simp <;> omega)).trans g0;have h2:=(HM.out.2.frozen (p:=⟨w.heap.size+1+1,1,none⟩) (by simp <;> omega)).trans g1;have h3:=(HM.out.2.frozen (p:=⟨w.heap.size+1+1,2,none⟩) (by simp <;> omega)).trans g2;clear hov3 hg3 c0 c1 c2 r0 r1 r2 f0 f1 f2 g0 g1 g2))
      have hla:=HM.out.1
      rw [HAD.out.1] at hla
      refine bodyPost_ret (v:=.agg #[.int .i64 E,.int .i64 O,.slice sa3 (fs.length+1) sc3]) (by simp [results,Tryz.results26,go_sem,s0,s1,s2]) rfl ?_
      exact hla.last

set_option maxRecDepth 20000 in
set_option maxHeartbeats 8000000 in
theorem l7add_any (E O:Int) (a:Option Addr) (cap:Nat) (es:List El) (xn:Int) (xa:Option Addr) (xc:Nat) (xl:List Int) (w:World) (hb:Els true w a es) (hn:es.length≤1000) :
    Calls Tryz.prog 19 #[.agg #[.int .i64 E,.int .i64 O,.slice a es.length cap],.agg #[.int .i64 xn,.slice xa xl.length xc]] w (AdA E O es ⟨xn,xa,xc,xl⟩ w):=by
  have HB:Hid (Els true w a es):=hb
  have HSU:Hid _:=butL_succ xn es
  have HLE:Hid (∀ k,(butL xn (es.take k)).length≤es.length):=fun k=>Nat.le_trans (butL_len xn _) (by simp;omega)
  clear hb
  generalize hlen:es.length=n at *
  have HLN:Hid (es.length=n∧True):=⟨hlen,trivial⟩
  clear hlen
  have HS0:Hid _:=AdP.start w E O a n cap ⟨xn,xa,xc,xl⟩ 32 36 32 32
  go_enter Tryz.func19,Tryz.ntmps19
  go_wp2
  go_loopw [6] (fun i wr=>∃ (k:Nat) (u:Value) (fs:List El),k≤n∧i=.int .i64 k∧fs=butL xn (es.take k)∧AdP w wr E O a n cap ⟨xn,xa,xc,xl⟩ u fs) (fun i _=>n - (intOf i).toNat)
  case atStart=>exact ⟨0,_,[],Nat.zero_le _,rfl,by simp [butL],HS0.out⟩
  case round=>
    clear HS0
    obtain ⟨k,u,fs,hk,rfl,hfs,hop⟩:=hrel
    have HST:Hid (fs=butL xn (es.take k)∧fs.length≤1000):=⟨hfs,by rw [hfs];have:=HLE.out k;omega⟩
    have hk1:=HST.out.2
    clear hfs
    obtain ⟨fa,fc,rfl⟩:=hop.cp.row.form
    have HOP:Hid (AdP w wr E O a n cap ⟨xn,xa,xc,xl⟩ (.slice fa fs.length fc) fs):=hop
    obtain ⟨c0,c1,c2,f0,f1,f2,hlX⟩:=hop.cp.box
    obtain ⟨x0,x1,x2,-,-,-,xbl⟩:=hop.bx
    obtain ⟨q0,q1,-,-,ql⟩:=hop.bq
    obtain ⟨r0,r1,r2,g0,g1,g2,rl⟩:=hop.by'
    simp only at q0 q1
    have hbel:=hop.cp.bel
    clear hop
    by_cases hlt:k<n
    · obtain ⟨b,off,rfl,hbl,d0,d1,hby,hrg⟩:=(HB.out.below hbel (Nat.le_refl _)).pen k (by rw [HLN.out.1];exact hlt)
      have hbw:b<w.heap.size:=by
        obtain ⟨b',o',e',h',_⟩:=HB.out.pen k (by rw [HLN.out.1];exact hlt)
        simp at e'
        omega
      have hsu:=HSU.out k hlt
      clear hby hrg hbel
      generalize es.getD k de=s at *
      obtain ⟨sn,a2,c2',sl⟩:=s
      simp only at d0 d1
      by_cases hx:sn=xn
      · have hx2:(sn != xn)=false:=by simpa using hx
        have HN:Hid (fs=butL xn (es.take (k+1))∧True):=⟨by rw [hsu,if_pos hx];exact HST.out.1,trivial⟩
        clear hsu hx
        go_wp2
        go_quiet (fail)
        go_wp2
        go_roundw
        case rel=>exact ⟨k+1,_,fs,by omega,by go_num,HN.out.1,HOP.out.step ⟨rfl,rfl,rfl,Nat.le_refl _,fun _ _=>rfl⟩⟩
        case measure=>simp [intOf];omega
      · have hx2:(sn != xn)=true:=by simpa using hx
        have HN:Hid (fs++[(⟨sn,a2,c2',sl⟩:El)]=butL xn (es.take (k+1))∧True):=⟨by rw [hsu,if_neg hx,← HST.out.1],trivial⟩
        clear hsu hx
        go_wp2
        go_quiet (fail)
        have hbq:Below wr.heap.size wr (wr.drewN nq):=⟨rfl,rfl,rfl,Nat.le_refl _,fun _ _=>rfl⟩
        have HOP1:Hid (AdP w (wr.drewN nq) E O (some ⟨b,off,none⟩) n cap ⟨xn,xa,xc,xl⟩ (.slice fa fs.length fc) fs):=HOP.out.step hbq
        have d01:=keep hbq hbl d0
        have d11:=keep hbq hbl d1
        have hbl1:b<(wr.drewN nq).heap.size:=hbl
        clear HOP c0 c1 c2 f0 f1 f2 x0 x1 x2 q0 q1 r0 r1 r2 g0 g1 g2 d0 d1 hbq hlX xbl ql rl hbl
        generalize wr.drewN nq=wr at *
        have HOP:=HOP1
        obtain ⟨c0,c1,c2,f0,f1,f2,hlX⟩:=HOP.out.cp.box
        obtain ⟨x0,x1,x2,-,-,-,xbl⟩:=HOP.out.bx
        have d0:=d01
        have d1:=d11
        have hbl:=hbl1
        clear HOP1 d01 d11 hbl1
        go_wp2
        refine wp_region_cut (S:=fun W=>W.cell? ⟨w.heap.size+1+1+1,2,none⟩=some (.slice fa fs.length fc)∧W.cell? ⟨w.heap.size,2,none⟩=some (.slice (some ⟨b,off,none⟩) n cap)∧W.cell? ⟨b,off+k * 2,none⟩=some (.int .i64 sn)∧W.cell? ⟨b,off+k * 2+1,none⟩=some (.slice a2 sl.length c2')) 9 (by kernel_rfl) (by kernel_rfl) (by exact ⟨c2,x2,d0,d1⟩) (fun hHeld=>?_)
        refine wpAnyH_take (i:=0) (v:=?_) rfl (by kernel_rfl) (by kernel_rfl) (by kernel_rfl) (fun _ _ _ h=>h) (Or.inl ⟨by rfl,?_⟩) (by assumption) ?_
        rotate_left 1
        · (intro w hSw;(try dsimp only at hSw);go_simp;try (with_reducible rfl))
        try simp only [List.getElem_toArray,List.getElem_cons_zero,List.getElem_cons_succ,Act.put,List.setIfInBounds_toArray,List.set_cons_zero,List.set_cons_succ]
        refine wpAnyH_take (i:=1) (v:=?_) rfl (by kernel_rfl) (by kernel_rfl) (by kernel_rfl) (fun _ _ _ h=>h) (Or.inl ⟨by rfl,?_⟩) (by assumption) ?_
        rotate_left 1
        · (intro w hSw;(try dsimp only at hSw);go_simp;try (with_reducible rfl))
        try simp only [List.getElem_toArray,List.getElem_cons_zero,List.getElem_cons_succ,Act.put,List.setIfInBounds_toArray,List.set_cons_zero,List.set_cons_succ]
        refine wpAnyH_take (i:=2) (v:=?_) rfl (by kernel_rfl) (by kernel_rfl) (by kernel_rfl) (fun _ _ _ h=>h) (Or.inl ⟨by rfl,?_⟩) (by assumption) ?_
        rotate_left 1
        · (intro w hSw;(try dsimp only at hSw);go_simp;try (with_reducible rfl))
        try simp only [List.getElem_toArray,List.getElem_cons_zero,List.getElem_cons_succ,Act.put,List.setIfInBounds_toArray,List.set_cons_zero,List.set_cons_succ]
        refine wpAnyH_take (i:=3) (v:=?_) rfl (by kernel_rfl) (by kernel_rfl) (by kernel_rfl) (fun _ _ _ h=>h) (Or.inl ⟨by rfl,?_⟩) (by assumption) ?_
        rotate_left 1
        · (intro w hSw;(try dsimp only at hSw);go_simp;try (with_reducible rfl))
        try simp only [List.getElem_toArray,List.getElem_cons_zero,List.getElem_cons_succ,Act.put,List.setIfInBounds_toArray,List.set_cons_zero,List.set_cons_succ]
        refine wpAnyH_take (i:=4) (v:=?_) rfl (by kernel_rfl) (by kernel_rfl) (by kernel_rfl) (fun _ _ _ h=>h) (Or.inl ⟨by rfl,?_⟩) (by assumption) ?_
        rotate_left 1
        · (intro w hSw;(try dsimp only at hSw);go_simp;try (with_reducible rfl))
        try simp only [List.getElem_toArray,List.getElem_cons_zero,List.getElem_cons_succ,Act.put,List.setIfInBounds_toArray,List.set_cons_zero,List.set_cons_succ]
        refine wpAnyH_take (i:=5) (v:=?_) rfl (by kernel_rfl) (by kernel_rfl) (by kernel_rfl) (fun _ _ _ h=>h) (Or.inl ⟨by rfl,?_⟩) (by assumption) ?_
        rotate_left 1
        · (intro w hSw;(try dsimp only at hSw);go_simp;try (with_reducible rfl))
        try simp only [List.getElem_toArray,List.getElem_cons_zero,List.getElem_cons_succ,Act.put,List.setIfInBounds_toArray,List.set_cons_zero,List.set_cons_succ]
        refine wpAnyH_take (i:=6) (v:=?_) rfl (by kernel_rfl) (by kernel_rfl) (by kernel_rfl) (fun _ _ _ h=>h) (Or.inl ⟨by rfl,?_⟩) (by assumption) ?_
        rotate_left 1
        · (intro w hSw;(try dsimp only at hSw);go_simp;try (with_reducible rfl))
        try simp only [List.getElem_toArray,List.getElem_cons_zero,List.getElem_cons_succ,Act.put,List.setIfInBounds_toArray,List.set_cons_zero,List.set_cons_succ]
        refine wpAnyH_ready (rs:=[7]) (by kernel_rfl) (by simp) ?_
        refine AllReadyH.cons rfl (fun K hK=>?_) AllReadyH.nil
        go_simp
        refine hK.out _ _ (by exact ⟨keepA _ hlX c2,keepA _ xbl x2,keepA _ hbl d0,keepA _ hbl d1⟩) (fun hHeld=>?_)
        clear hK K
        try simp only [List.getElem_toArray,List.getElem_cons_zero,List.getElem_cons_succ,Act.put,List.setIfInBounds_toArray,List.set_cons_zero,List.set_cons_succ]
        refine wpAnyH_ready (rs:=[8]) (by kernel_rfl) (by simp) ?_
        refine AllReadyH.cons rfl (fun K hK=>?_) AllReadyH.nil
        refine wanted_step rfl (wp_append_it (.tmp 29) (.tmp 35) rfl (w.heap.size+1+1+1+1) (.slice fa fs.length fc) fs (by simp [Act.eval]) (HOP.out.cp.row.below (Below.drewS ((Below.refl wr.heap.size wr.drew).alloc (Nat.le_refl _) _))) wr.heap.size 1 ⟨sn,a2,c2',sl⟩ (by simp [Act.eval]) (newsT wr.drew sn _ sl.length c2' 36 _ rfl rfl rfl rfl) (by omega) (by simp;omega) ?_)
        intro v3 w3 hov3 hg3
        obtain ⟨sa3,sc3,hv3⟩:=hov3.form
        rw [List.length_append,List.length_singleton] at hv3
        subst hv3
        have HM:Hid _:=HOP.out.more (w2:=wr.drew) ((Below.refl _ _).drew) hov3 hg3
        have e2:=keep HM.out.2 (by omega) c2
        have y3:=keep HM.out.2 (by omega) x2
        have hne:¬ (Value.slice fa fs.length fc).ownBlock=some b:=fun he=>by have:=(HOP.out.cp.row.blk he).1;omega
        have d3:=(Only.ofGrownT hg3).cell (b:=b) (o:=off+k * 2) (by simp;omega) hne (keepA _ hbl d0)
        have d4:=(Only.ofGrownT hg3).cell (b:=b) (o:=off+k * 2+1) (by simp;omega) hne (keepA _ hbl d1)
        have h0:=(HM.out.2.frozen (p:=⟨w.heap.size+1+1+1,2,none⟩) (by simp)).trans f2
        clear hov3 hg3
        refine hK.out _ _ (by exact ⟨e2,y3,d3,d4⟩) (fun hHeld=>?_)
        clear hK K
        try simp only [List.getElem_toArray,List.getElem_cons_zero,List.getElem_cons_succ,Act.put,List.setIfInBounds_toArray,List.set_cons_zero,List.set_cons_succ]
        refine wpAnyH_done (by kernel_rfl) ?_ _
        simp only [cutQ,List.drop_succ_cons,List.drop_zero]
        have hmo:=HM.out.1
        rw [HN.out.1] at hmo
        have HMO:Hid _:=hmo
        clear hmo
        go_wp2
        go_roundw
        case rel=>exact ⟨k+1,_,_,by omega,by go_num,rfl,HMO.out⟩
        case measure=>simp [intOf];omega
    · have hkn:k=n:=by omega
      subst hkn
      have HAD:Hid (fs++[(⟨xn,xa,xc,xl⟩:El)]=addL es ⟨xn,xa,xc,xl⟩∧True):=⟨by rw [HST.out.1,List.take_of_length_le (by rw [HLN.out.1];exact Nat.le_refl _)];rfl,trivial⟩
      clear hbel HSU HLE
      go_wp2_with (at_builtin;(refine wpList_append_it rfl (.tmp 39) (.tmp 41) rfl (w.heap.size+1+1+1+1) (.slice fa fs.length fc) fs (by simp [Act.eval]) (HOP.out.cp.row.below ((Below.refl _ _).alloc (Nat.le_refl _) _)) wr.heap.size 1 ⟨xn,xa,xc,xl⟩ (by simp [Act.eval]) (newsT wr xn _ xl.length xc 36 _ rfl rfl rfl rfl) (by omega) (by simp <;> omega) ?_;intro v3 w3 hov3 hg3;obtain ⟨sa3,sc3,hv3⟩:=hov3.form;rw [List.length_append,List.length_singleton] at hv3;subst hv3;have HM:Hid _:=HOP.out.more (Below.refl _ _) hov3 hg3;have e0:=keep HM.out.2 (by omega) c0;have e1:=keep HM.out.2 (by omega) c1;have e2:=keep HM.out.2 (by omega) c2;have s0:=keep HM.out.2 (by omega) r0;have s1:=keep HM.out.2 (by omega) r1;have s2:=keep HM.out.2 (by omega) r2;have h0:=(HM.out.2.frozen (p:=⟨w.heap.size+1+1+1,2,none⟩) (by simp)).trans f2;have h1:=(HM.out.2.frozen (p:=⟨w.heap.size+1+1,0,none⟩) (by simp <;> omega)).trans g0;have h2:=(HM.out.2.frozen (p:=⟨w.heap.size+1+1,1,none⟩) (by simp <;> omega)).trans g1;have h3:=(HM.out.2.frozen (p:=⟨w.heap.size+1+1,2,none⟩) (by simp <;> omega)).trans g2;clear hov3 hg3 c0 c1 c2 r0 r1 r2 f0 f1 f2 g0 g1 g2))
      have hla:=HM.out.1
      rw [HAD.out.1] at hla
      refine bodyPost_ret (v:=.agg #[.int .i64 E,.int .i64 O,.slice sa3 (fs.length+1) sc3]) (by simp [results,Tryz.results19,go_sem,s0,s1,s2]) rfl ?_
      exact hla.last
end Go.Proofs.YtiabhcfcpkkhoaaGreatDoor
