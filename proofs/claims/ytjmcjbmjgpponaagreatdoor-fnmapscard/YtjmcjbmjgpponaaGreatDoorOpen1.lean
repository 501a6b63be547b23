import Derived.Test.YtjmcjbmjgpponaaGreatDoorBox2
set_option maxRecDepth 20000
set_option maxHeartbeats 16000000
namespace Go.Proofs.YtjmcjbmjgpponaaGreatDoor
open Go.RowKit
set_option linter.unusedVariables false
set_option linter.unusedSimpArgs false
def z2k (x:Int) (es:List El):List El:=es.filter (fun e=>e.n != x)
def z2f (es:List El) (q:El):List El:=z2k q.n es++[q]
theorem zk0 (x:Int) (es:List El) (k:Nat) (h:k<es.length):z2k x (es.take (k+1))=if (es.getD k de).n=x then z2k x (es.take k) else z2k x (es.take k)++[es.getD k de]:=by
 have e:es.getD k de=es[k]:=by rw [List.getD_eq_getElem?_getD,List.getElem?_eq_getElem h];rfl
 unfold z2k;rw [List.take_succ_eq_append_getElem h,List.filter_append,e]
 by_cases hx:es[k].n=x
 ·rw [if_pos hx]
  simp [hx]
 ·rw [if_neg hx]
  simp [hx]
theorem z7r (x:Int) (es:List El):(z2k x es).length<=es.length:=List.length_filter_le _ _
structure AdP (w W:World) (E O:Int) (a:Option Addr) (n cap:Nat) (q:El) (u:Value) (fs:List El):Prop where
 cp:CpP w W (w.heap.size+1+1+1) E O u fs
 bx:Box3 W w.heap.size (.int .i64 E) (.int .i64 O) (.slice a n cap)
 bq:Box2 W (w.heap.size+1) (.int .i64 q.n) (.slice q.a q.ls.length q.c)
 by':Box3 W (w.heap.size+1+1) (.int .i64 0) (.int .i64 0) (.slice none 0 0)
theorem AdP.start (w:World) (E O:Int) (a:Option Addr) (n cap:Nat) (q:El) (T T1 T2 T3:TypeId):AdP w ((((w.alloc (Obj.cells #[.int .i64 E,.int .i64 O,.slice a n cap] T)).alloc (Obj.cells #[.int .i64 q.n,.slice q.a q.ls.length q.c] T1)).alloc (Obj.cells #[.int .i64 0,.int .i64 0,.slice none 0 0] T2)).alloc (Obj.cells #[.int .i64 E,.int .i64 O,.slice none 0 0] T3)) E O a n cap q (.slice none 0 0) []:=by
 have h1:=(((Box3.new w (.int .i64 E) (.int .i64 O) (.slice a n cap) T).alloc (Obj.cells #[.int .i64 q.n,.slice q.a q.ls.length q.c] T1)).alloc (Obj.cells #[.int .i64 0,.int .i64 0,.slice none 0 0] T2)).alloc (Obj.cells #[.int .i64 E,.int .i64 O,.slice none 0 0] T3);have h0:=((Box2.new (w.alloc (Obj.cells #[.int .i64 E,.int .i64 O,.slice a n cap] T)) (.int .i64 q.n) (.slice q.a q.ls.length q.c) T1).alloc (Obj.cells #[.int .i64 0,.int .i64 0,.slice none 0 0] T2)).alloc (Obj.cells #[.int .i64 E,.int .i64 O,.slice none 0 0] T3)
 have h2:=(Box3.new ((w.alloc (Obj.cells #[.int .i64 E,.int .i64 O,.slice a n cap] T)).alloc (Obj.cells #[.int .i64 q.n,.slice q.a q.ls.length q.c] T1)) (.int .i64 0) (.int .i64 0) (.slice none 0 0) T2).alloc (Obj.cells #[.int .i64 E,.int .i64 O,.slice none 0 0] T3);have h3:=Box3.new (((w.alloc (Obj.cells #[.int .i64 E,.int .i64 O,.slice a n cap] T)).alloc (Obj.cells #[.int .i64 q.n,.slice q.a q.ls.length q.c] T1)).alloc (Obj.cells #[.int .i64 0,.int .i64 0,.slice none 0 0] T2)) (.int .i64 E) (.int .i64 O) (.slice none 0 0) T3
 simp only [World.size_alloc] at h0 h2 h3
 exact ⟨⟨((((Below.refl _ _).alloc nl _).alloc (by simp) _).alloc (by simp;omega) _).alloc (by simp;omega) _,by omega,OVt.nil _ _,h3⟩,h1,h0,h2⟩
theorem AdP.step {w W W':World} {E O:Int} {a:Option Addr} {n cap:Nat} {q:El} {u:Value} {fs:List El} (h:AdP w W E O a n cap q u fs) (hb:Below W.heap.size W W'):AdP w W' E O a n cap q u fs:=⟨h.cp.step hb,h.bx.step hb,h.bq.keep hb h.bq.lt,h.by'.step hb⟩
theorem AdP.more {w W w2 w3:World} {E O:Int} {a:Option Addr} {n cap:Nat} {q:El} {u v':Value} {fs:List El} {e:El} {ob:Obj} (h:AdP w W E O a n cap q u fs) (hb:Below W.heap.size W w2) (hov:OVt w3 (w.heap.size+1+1+1+1) v' (fs++[e])) (hg:(w2.alloc ob).grownBy w3 u.ownBlock) :
  AdP w (w3.setCell ⟨w.heap.size+1+1+1,2,none⟩ v') E O a n cap q v' (fs++[e])/\Below (w.heap.size+1+1+1+1) W w3:=by
 obtain ⟨h1,h2⟩:=h.cp.more hb hov hg;exact ⟨⟨h1,(h.bx.keep h2 (by omega)).other (by simp;omega) _,(h.bq.keep h2 (by omega)).other (by simp;omega) _,(h.by'.keep h2 (by omega)).other (by simp) _⟩,h2⟩
def AdA (E O:Int) (es:List El) (q:El) (w:World) (r:Ending) (w':World):Prop:=(∃ v,r=.returned (.agg #[.int .i64 E,.int .i64 O,v])/\OVt w' w.heap.size v (z2f es q))/\Below w.heap.size w w'
theorem AdP.last {w W:World} {E O:Int} {a:Option Addr} {n cap:Nat} {q:El} {u:Value} {es:List El} (h:AdP w W E O a n cap q u (z2f es q)) :
  AdA E O es q w (.returned (.agg #[.int .i64 E,.int .i64 O,u])) (((W.setCell ⟨w.heap.size+1+1,0,none⟩ (.int .i64 E)).setCell ⟨w.heap.size+1+1,1,none⟩ (.int .i64 O)).setCell ⟨w.heap.size+1+1,2,none⟩ u):=by
 have hon:Only (fun b=>b=w.heap.size+1+1) W (((W.setCell ⟨w.heap.size+1+1,0,none⟩ (.int .i64 E)).setCell ⟨w.heap.size+1+1,1,none⟩ (.int .i64 O)).setCell ⟨w.heap.size+1+1,2,none⟩ u):=
  (((Only.refl (fun b=>b=w.heap.size+1+1) W).setCell (p:=⟨w.heap.size+1+1,0,none⟩) (.inl rfl) _).setCell (p:=⟨w.heap.size+1+1,1,none⟩) (.inl rfl) _).setCell (p:=⟨w.heap.size+1+1,2,none⟩) (.inl rfl) _
 exact ⟨⟨u,rfl,(h.cp.row.stay hon (fun k hk e=>by have:=(h.cp.row.blk hk).1;omega)).weak (by omega)⟩,h.cp.bel.trans (hon.below (by have:=h.cp.bel.size;omega) (by intro k hk;omega))⟩
theorem zi9 (E O:Int) (a:Option Addr) (cap:Nat) (es:List El) (xn:Int) (xa:Option Addr) (xc:Nat) (xl:List Int) (w:World) (hb:Els true w a es) (hn:es.length<=1000) :
  Calls Tryz.prog 65 #[.agg #[.int .i64 E,.int .i64 O,.slice a es.length cap],.agg #[.int .i64 xn,.slice xa xl.length xc]] w (AdA E O es ⟨xn,xa,xc,xl⟩ w):=by
 have HB:Hid (Els true w a es):=hb;have HSU:Hid _:=zk0 xn es;have HLE:Hid (∀ k,(z2k xn (es.take k)).length<=es.length):=fun k=>Nat.le_trans (z7r xn _) (by simp;omega)
 clear hb;generalize hlen:es.length=n at *;have HLN:Hid (es.length=n/\True):=⟨hlen,trivial⟩;clear hlen;have HS0:Hid _:=AdP.start w E O a n cap ⟨xn,xa,xc,xl⟩ 25 39 25 25
 go_enter Tryz.func65,Tryz.ntmps65
 go_wp2
 go_loopw [6] (fun i wr=>∃ (k:Nat) (u:Value) (fs:List El),k<=n/\i=.int .i64 k/\fs=z2k xn (es.take k)/\AdP w wr E O a n cap ⟨xn,xa,xc,xl⟩ u fs) (fun i _=>n-(intOf i).toNat)
 case atStart=>exact ⟨0,_,[],Nat.zero_le _,rfl,by simp [z2k],HS0.out⟩
 case round=>
  clear HS0;obtain ⟨k,u,fs,hk,rfl,hfs,hop⟩:=hrel;have HST:Hid (fs=z2k xn (es.take k)/\fs.length<=1000):=⟨hfs,by rw [hfs];have:=HLE.out k;omega⟩
  have hk1:=HST.out.2;clear hfs;obtain ⟨fa,fc,rfl⟩:=hop.cp.row.form;have HOP:Hid (AdP w wr E O a n cap ⟨xn,xa,xc,xl⟩ (.slice fa fs.length fc) fs):=hop;obtain ⟨c0,c1,c2,f0,f1,f2,hlX⟩:=hop.cp.box;obtain ⟨x0,x1,x2,-,-,-,xbl⟩:=hop.bx;obtain ⟨q0,q1,-,-,ql⟩:=hop.bq;obtain ⟨r0,r1,r2,g0,g1,g2,rl⟩:=hop.by'
  simp only at q0 q1
  have hbel:=hop.cp.bel;clear hop
  by_cases hlt:k<n
  ·obtain ⟨b,off,rfl,hbl,d0,d1,hby,hrg⟩:=(HB.out.below hbel nl).pen k (by rw [HLN.out.1];exact hlt)
   have hbw:b<w.heap.size:=by
    obtain ⟨b',o',e',h',_⟩:=HB.out.pen k (by rw [HLN.out.1];exact hlt)
    simp at e'
    omega
   have hsu:=HSU.out k hlt;clear hby hrg hbel;generalize es.getD k de=s at *;obtain ⟨sn,a2,c2',sl⟩:=s
   simp only at d0 d1
   by_cases hx:sn=xn
   ·have hx2:(sn != xn)=false:=by simpa using hx
    have HN:Hid (fs=z2k xn (es.take (k+1))/\True):=⟨by rw [hsu,if_pos hx];exact HST.out.1,trivial⟩
    clear hsu hx;go_wp2
    go_quiet (fail)
    go_wp2
    go_roundw
    case rel=>exact ⟨k+1,_,fs,by omega,by go_num,HN.out.1,HOP.out.step ⟨rfl,rfl,rfl,Nat.le_refl _,fun _ _=>rfl⟩⟩
    case measure=>simp [intOf];omega
   ·have hx2:(sn != xn)=true:=by simpa using hx
    have HN:Hid (fs++[(⟨sn,a2,c2',sl⟩:El)]=z2k xn (es.take (k+1))/\True):=⟨by rw [hsu,if_neg hx,<-HST.out.1],trivial⟩
    clear hsu hx;go_wp2
    go_quiet (fail)
    have hbq:Bw wr (wr.drewN nq):=⟨rfl,rfl,rfl,Nat.le_refl _,fun _ _=>rfl⟩
    have HOP1:Hid (AdP w (wr.drewN nq) E O (some ⟨b,off,none⟩) n cap ⟨xn,xa,xc,xl⟩ (.slice fa fs.length fc) fs):=HOP.out.step hbq;have d01:=keep hbq hbl d0;have d11:=keep hbq hbl d1;have hbl1:b<(wr.drewN nq).heap.size:=hbl;clear HOP c0 c1 c2 f0 f1 f2 x0 x1 x2 q0 q1 r0 r1 r2 g0 g1 g2 d0 d1 hbq hlX xbl ql rl hbl;generalize wr.drewN nq=wr at *;have HOP:=HOP1;obtain ⟨c0,c1,c2,f0,f1,f2,hlX⟩:=HOP.out.cp.box
    obtain ⟨x0,x1,x2,-,-,-,xbl⟩:=HOP.out.bx;have d0:=d01;have d1:=d11;have hbl:=hbl1;clear HOP1 d01 d11 hbl1;go_wp2;refine zj (S:=fun W=>W.cell? ⟨w.heap.size+1+1+1,2,none⟩=some (.slice fa fs.length fc)/\W.cell? ⟨w.heap.size,2,none⟩=some (.slice (some ⟨b,off,none⟩) n cap)/\W.cell? ⟨b,off+k*2,none⟩=some (.int .i64 sn)/\W.cell? ⟨b,off+k*2+1,none⟩=some (.slice a2 sl.length c2')) 9 (by kernel_rfl) (by kernel_rfl) (by exact ⟨c2,x2,d0,d1⟩) (fun hHeld=>?_)
    refine tk 0 ?_
    try simp only [tkS]
    refine tk 1 ?_
    try simp only [tkS]
    refine tk 2 ?_
    try simp only [tkS]
    refine tk 3 ?_
    try simp only [tkS]
    refine tk 4 ?_
    try simp only [tkS]
    refine tk 5 ?_
    try simp only [tkS]
    refine tk 6 ?_
    try simp only [tkS]
    refine wpAnyH_ready (rs:=[7]) (by kernel_rfl) (by simp) ?_
    refine AllReadyH.cons rfl (fun K hK=>?_) AllReadyH.nil
    go_simp
    refine hK.out _ _ (by exact ⟨zb _ hlX c2,zb _ xbl x2,zb _ hbl d0,zb _ hbl d1⟩) (fun hHeld=>?_)
    clear hK K
    try simp only [tkS]
    refine wpAnyH_ready (rs:=[8]) (by kernel_rfl) (by simp) ?_
    refine AllReadyH.cons rfl (fun K hK=>?_) AllReadyH.nil
    refine z1e rfl (z3g (.tmp 29) (.tmp 35) rfl (w.heap.size+1+1+1+1) (.slice fa fs.length fc) fs (by simp [Act.eval]) (HOP.out.cp.row.below (Below.drewS ((Below.refl wr.heap.size wr.drew).alloc nl _))) wr.heap.size 1 ⟨sn,a2,c2',sl⟩ (by simp [Act.eval]) (z6y wr.drew sn _ sl.length c2' 39 _ rfl rfl rfl rfl) (by omega) (by simp;omega) ?_)
    intro v3 w3 hov3 hg3
    obtain ⟨sa3,sc3,hv3⟩:=hov3.form;rw [List.length_append,List.length_singleton] at hv3;subst hv3;have HM:Hid _:=HOP.out.more (w2:=wr.drew) ((Below.refl _ _).drew) hov3 hg3;have e2:=keep HM.out.2 (by omega) c2
    have y3:=keep HM.out.2 (by omega) x2
    have hne:¬(Value.slice fa fs.length fc).ownBlock=some b:=fun he=>by have:=(HOP.out.cp.row.blk he).1;omega
    have d3:=(Only.ofGrownT hg3).cell (b:=b) (o:=off+k*2) (by simp;omega) hne (zb _ hbl d0)
    have d4:=(Only.ofGrownT hg3).cell (b:=b) (o:=off+k*2+1) (by simp;omega) hne (zb _ hbl d1)
    have h0:=(HM.out.2.frozen (p:=⟨w.heap.size+1+1+1,2,none⟩) (by simp)).trans f2
    clear hov3 hg3;refine hK.out _ _ (by exact ⟨e2,y3,d3,d4⟩) (fun hHeld=>?_)
    clear hK K
    try simp only [tkS]
    refine wpAnyH_done (by kernel_rfl) ?_ _
    simp only [z0d,List.drop_succ_cons,List.drop_zero]
    have hmo:=HM.out.1;rw [HN.out.1] at hmo;have HMO:Hid _:=hmo;clear hmo;go_wp2;go_roundw
    case rel=>exact ⟨k+1,_,_,by omega,by go_num,rfl,HMO.out⟩
    case measure=>simp [intOf];omega
  ·have hkn:k=n:=by omega
   subst hkn;have HAD:Hid (fs++[(⟨xn,xa,xc,xl⟩:El)]=z2f es ⟨xn,xa,xc,xl⟩/\True):=⟨by rw [HST.out.1,List.take_of_length_le (by rw [HLN.out.1];exact Nat.le_refl _)];rfl,trivial⟩
   clear hbel HSU HLE;go_wp2_with (at_builtin;(refine z7m rfl (.tmp 39) (.tmp 41) rfl (w.heap.size+1+1+1+1) (.slice fa fs.length fc) fs (by simp [Act.eval]) (HOP.out.cp.row.below ((Below.refl _ _).alloc nl _)) wr.heap.size 1 ⟨xn,xa,xc,xl⟩ (by simp [Act.eval]) (z6y wr xn _ xl.length xc 39 _ rfl rfl rfl rfl) (by omega) (by simp <;> omega) ?_;intro v3 w3 hov3 hg3;obtain ⟨sa3,sc3,hv3⟩:=hov3.form;rw [List.length_append,List.length_singleton] at hv3;subst hv3;have HM:Hid _:=HOP.out.more (Below.refl _ _) hov3 hg3;have e0:=keep HM.out.2 (by omega) c0;have e1:=keep HM.out.2 (by omega) c1;have e2:=keep HM.out.2 (by omega) c2;have s0:=keep HM.out.2 (by omega) r0;have s1:=keep HM.out.2 (by omega) r1;have s2:=keep HM.out.2 (by omega) r2;have h0:=(HM.out.2.frozen (p:=⟨w.heap.size+1+1+1,2,none⟩) (by simp)).trans f2;have h1:=(HM.out.2.frozen (p:=⟨w.heap.size+1+1,0,none⟩) (by simp <;> omega)).trans g0;have h2:=(HM.out.2.frozen (p:=⟨w.heap.size+1+1,1,none⟩) (by simp <;> omega)).trans g1;have h3:=(HM.out.2.frozen (p:=⟨w.heap.size+1+1,2,none⟩) (by simp <;> omega)).trans g2;clear hov3 hg3 c0 c1 c2 r0 r1 r2 f0 f1 f2 g0 g1 g2))
   have hla:=HM.out.1;rw [HAD.out.1] at hla;refine bodyPost_ret (v:=.agg #[.int .i64 E,.int .i64 O,.slice sa3 (fs.length+1) sc3]) (by simp [results,Tryz.results65,go_sem,s0,s1,s2]) rfl ?_
   exact hla.last
structure OwP7 (w W:World) (E O:Int) (a:Option Addr) (n cap:Nat) (u:Value) (fs:List El):Prop where
 cp:CpP w W (w.heap.size+1+1) E O u fs
 dp:Deep W (w.heap.size+1+1+1) fs
 bx:Box3 W w.heap.size (.int .i64 E) (.int .i64 O) (.slice a n cap)
 by':Box3 W (w.heap.size+1) (.int .i64 0) (.int .i64 0) (.slice none 0 0)
theorem OwP7.start (w:World) (E O:Int) (a:Option Addr) (n cap:Nat) (T T2 T3:TypeId):OwP7 w (((w.alloc (Obj.cells #[.int .i64 E,.int .i64 O,.slice a n cap] T)).alloc (Obj.cells #[.int .i64 0,.int .i64 0,.slice none 0 0] T2)).alloc (Obj.cells #[.int .i64 E,.int .i64 O,.slice none 0 0] T3)) E O a n cap (.slice none 0 0) []:=by
 have h1:=((Box3.new w (.int .i64 E) (.int .i64 O) (.slice a n cap) T).alloc (Obj.cells #[.int .i64 0,.int .i64 0,.slice none 0 0] T2)).alloc (Obj.cells #[.int .i64 E,.int .i64 O,.slice none 0 0] T3);have h2:=(Box3.new (w.alloc (Obj.cells #[.int .i64 E,.int .i64 O,.slice a n cap] T)) (.int .i64 0) (.int .i64 0) (.slice none 0 0) T2).alloc (Obj.cells #[.int .i64 E,.int .i64 O,.slice none 0 0] T3);have h3:=Box3.new ((w.alloc (Obj.cells #[.int .i64 E,.int .i64 O,.slice a n cap] T)).alloc (Obj.cells #[.int .i64 0,.int .i64 0,.slice none 0 0] T2)) (.int .i64 E) (.int .i64 O) (.slice none 0 0) T3
 simp only [World.size_alloc] at h2 h3
 exact ⟨⟨(((Below.refl _ _).alloc nl _).alloc (by simp) _).alloc (by simp;omega) _,by omega,OVt.nil _ _,h3⟩,Deep.nil _ _,h1,h2⟩
theorem OwP7.more {w W w2 w3:World} {E O:Int} {a:Option Addr} {n cap:Nat} {u v':Value} {fs:List El} {e:El} {ob:Obj} (h:OwP7 w W E O a n cap u fs) (hb:Below W.heap.size W w2) (hm:Mine w2 W.heap.size w2.heap.size e.a e.c e.ls) (hov:OVt w3 (w.heap.size+1+1+1) v' (fs++[e])) (hg:(w2.alloc ob).grownBy w3 u.ownBlock) :
  OwP7 w (w3.setCell ⟨w.heap.size+1+1,2,none⟩ v') E O a n cap v' (fs++[e])/\Below (w.heap.size+1+1+1) W w3:=by
 obtain ⟨h1,h2⟩:=h.cp.more hb hov hg;exact ⟨⟨h1,h.cp.deep h.dp hb hm hg,(h.bx.keep h2 (by omega)).other (by simp;omega) _,(h.by'.keep h2 (by omega)).other (by simp) _⟩,h2⟩
def OwA (E O:Int) (es:List El) (w:World) (r:Ending) (w':World):Prop:=(∃ v ts,r=.returned (.agg #[.int .i64 E,.int .i64 O,v])/\CopT w' w.heap.size v ts es)/\Below w.heap.size w w'
theorem OwP7.last {w W:World} {E O:Int} {a:Option Addr} {n cap:Nat} {u:Value} {fs es:List El} (h:OwP7 w W E O a n cap u fs) (hc:fs.map El.ct=es.map El.ct) (hr:∀ e ∈ es,rE true e) :
  OwA E O es w (.returned (.agg #[.int .i64 E,.int .i64 O,u])) (((W.setCell ⟨w.heap.size+1,0,none⟩ (.int .i64 E)).setCell ⟨w.heap.size+1,1,none⟩ (.int .i64 O)).setCell ⟨w.heap.size+1,2,none⟩ u):=by
 have hcp:CopT W (w.heap.size+1+1+1) u fs es:=⟨hc,h.cp.row,h.dp,zpa hc hr⟩;have hon:Only (fun b=>b=w.heap.size+1) W (((W.setCell ⟨w.heap.size+1,0,none⟩ (.int .i64 E)).setCell ⟨w.heap.size+1,1,none⟩ (.int .i64 O)).setCell ⟨w.heap.size+1,2,none⟩ u):=
  (((Only.refl (fun b=>b=w.heap.size+1) W).setCell (p:=⟨w.heap.size+1,0,none⟩) (.inl rfl) _).setCell (p:=⟨w.heap.size+1,1,none⟩) (.inl rfl) _).setCell (p:=⟨w.heap.size+1,2,none⟩) (.inl rfl) _
 exact ⟨⟨u,fs,rfl,(hcp.stay hon (fun k hk e=>by omega)).weak (by omega)⟩,h.cp.bel.trans (hon.below (by have:=h.cp.bel.size;omega) (by intro k hk;omega))⟩
theorem zid (E O:Int) (a:Option Addr) (cap:Nat) (es:List El) (w:World) (hb:Els true w a es) (hn:es.length<=1000) (hl:∀ s ∈ es,s.ls.length<=1000000) :
  Calls Tryz.prog 66 #[.agg #[.int .i64 E,.int .i64 O,.slice a es.length cap]] w (OwA E O es w):=by
 have HB:Hid (Els true w a es):=hb;have HL:Hid (∀ s ∈ es,s.ls.length<=1000000):=hl;have HRG:Hid (∀ e ∈ es,rE true e):=fun e he=>(hb.1 e he).1
 clear hb hl;generalize hlen:es.length=n at *;have HLN:Hid (es.length=n/\True):=⟨hlen,trivial⟩;clear hlen;have HS0:Hid _:=OwP7.start w E O a n cap 25 25 25
 go_enter Tryz.func66,Tryz.ntmps66
 go_wp2
 go_loopw [4] (fun i wr=>∃ (k:Nat) (u:Value) (fs:List El),k<=n/\i=.int .i64 k/\fs.map El.ct=(es.take k).map El.ct/\OwP7 w wr E O a n cap u fs) (fun i _=>n-(intOf i).toNat)
 case atStart=>exact ⟨0,_,[],Nat.zero_le _,rfl,by simp,HS0.out⟩
 case round=>
  clear HS0;obtain ⟨k,u,fs,hk,rfl,hct,hop⟩:=hrel;have HST:Hid (fs.map El.ct=(es.take k).map El.ct/\fs.length=k):=⟨hct,by have:=congrArg List.length hct;simp at this;have:=HLN.out.1;omega⟩
  clear hct;obtain ⟨fa,fc,rfl⟩:=hop.cp.row.form;have HOP:Hid (OwP7 w wr E O a n cap (.slice fa fs.length fc) fs):=hop;obtain ⟨c0,c1,c2,f0,f1,f2,hlX⟩:=hop.cp.box;obtain ⟨x0,x1,x2,-,-,-,xl⟩:=hop.bx;obtain ⟨r0,r1,r2,g0,g1,g2,rl⟩:=hop.by'
  have hbel:=hop.cp.bel;clear hop
  by_cases hlt:k<n
  ·obtain ⟨b,off,rfl,hbl,d0,d1,hby,hrg⟩:=(HB.out.below hbel nl).pen k (by rw [HLN.out.1];exact hlt)
   have hbw:b<w.heap.size:=by
    obtain ⟨b',o',e',h',_⟩:=HB.out.pen k (by rw [HLN.out.1];exact hlt)
    simp at e'
    omega
   have hll:=HL.out _ (z1m (k:=k) (by rw [HLN.out.1];exact hlt))
   have HCS:Hid ((es.take (k+1)).map El.ct=(es.take k).map El.ct++[(es.getD k de).ct]/\True):=⟨zcd es k (by rw [HLN.out.1];exact hlt),trivial⟩
   have hk1:fs.length<=1000:=by have:=HST.out.2;omega
   clear hrg hbel;generalize es.getD k de=s at *;obtain ⟨sn,a2,c2',sl⟩:=s
   simp only at d0 d1 hby hll
   have HBY:Hid (Byt wr a2 sl):=hby;clear hby;have HE1:Hid (OVB (wr.drew.alloc (Obj.cells #[] 5)) wr.heap.size (.slice (some ⟨wr.heap.size,0,none⟩) 0 0) []/\Byt (wr.drew.alloc (Obj.cells #[] 5)) a2 sl/\Bw wr (wr.drew.alloc (Obj.cells #[] 5))):=⟨OVB.empty wr.drew _ nl,(HBY.out.drewN 1).alloc _,Below.drewS ((Below.refl wr.heap.size wr.drew).alloc nl _)⟩;go_wp2;refine zj (S:=fun W=>W.cell? ⟨w.heap.size+1+1,2,none⟩=some (.slice fa fs.length fc)/\W.cell? ⟨w.heap.size,2,none⟩=some (.slice (some ⟨b,off,none⟩) n cap)/\W.cell? ⟨b,off+k*2,none⟩=some (.int .i64 sn)/\W.cell? ⟨b,off+k*2+1,none⟩=some (.slice a2 sl.length c2')) 19 (by kernel_rfl) (by kernel_rfl) (by exact ⟨c2,x2,d0,d1⟩) (fun hHeld=>?_)
   refine tk 0 ?_
   try simp only [tkS]
   refine tk 1 ?_
   try simp only [tkS]
   refine tk 2 ?_
   try simp only [tkS]
   refine tk 3 ?_
   try simp only [tkS]
   refine tk 4 ?_
   try simp only [tkS]
   refine tk 5 ?_
   try simp only [tkS]
   refine tk 6 ?_
   try simp only [tkS]
   refine tk 7 ?_
   try simp only [tkS]
   refine tk 9 ?_
   try simp only [tkS]
   refine tk 10 ?_
   try simp only [tkS]
   refine tk 11 ?_
   try simp only [tkS]
   refine tk 12 ?_
   try simp only [tkS]
   refine tk 13 ?_
   try simp only [tkS]
   refine tk 14 ?_
   try simp only [tkS]
   refine wpAnyH_ready (rs:=[8]) (by kernel_rfl) (by simp) ?_
   refine AllReadyH.cons rfl (fun K hK=>?_) AllReadyH.nil
   go_simp
   refine hK.out _ _ (by exact ⟨zb _ hlX c2,zb _ (by omega) x2,zb _ hbl d0,zb _ hbl d1⟩) (fun hHeld=>?_)
   clear hK K
   try simp only [tkS]
   refine wpAnyH_ready (rs:=[15]) (by kernel_rfl) (by simp) ?_
   refine AllReadyH.cons rfl (fun K hK=>?_) AllReadyH.nil
   refine z1e rfl (zc2 (.tmp 25) (.tmp 31) rfl wr.heap.size (.slice (some ⟨wr.heap.size,0,none⟩) 0 0) [] (by simp [Act.eval]) (HE1.out.1) a2 c2' sl (by simp [Act.eval]) (HE1.out.2.1) (by simp;omega) (by simp) ?_)
   intro v2 w2 hov2 hg2
   have hb2:Bw wr w2:=z0l HE1.out.2.2 (by simp) HE1.out.1 hg2
   rw [List.nil_append] at hov2;obtain ⟨ua,uc,rfl,hm2⟩:=hov2.mine;have HM2:Hid (Mine w2 wr.heap.size w2.heap.size ua uc sl/\Bw wr w2):=⟨hm2,hb2⟩;have k0:=keep hb2 hlX c2;have k1:=keep hb2 (by omega) x2
   have k2:=keep hb2 hbl d0;have k3:=keep hb2 hbl d1;have hl2:w.heap.size+1+1<w2.heap.size:=by have:=hb2.size;omega
   have hbl2:b<w2.heap.size:=by have:=hb2.size;omega
   clear hm2 hb2 hov2 hg2;refine hK.out _ _ (by exact ⟨k0,k1,k2,k3⟩) (fun hHeld=>?_)
   clear hK K
   try simp only [tkS]
   refine tk 16 ?_
   try simp only [tkS]
   refine wpAnyH_ready (rs:=[17]) (by kernel_rfl) (by simp) ?_
   refine AllReadyH.cons rfl (fun K hK=>?_) AllReadyH.nil
   go_simp
   refine hK.out _ _ (by exact ⟨zb _ hl2 k0,zb _ (by omega) k1,zb _ hbl2 k2,zb _ hbl2 k3⟩) (fun hHeld=>?_)
   clear hK K
   try simp only [tkS]
   refine wpAnyH_ready (rs:=[18]) (by kernel_rfl) (by simp) ?_
   refine AllReadyH.cons rfl (fun K hK=>?_) AllReadyH.nil
   refine z1e rfl (z3g (.tmp 18) (.tmp 34) rfl (w.heap.size+1+1+1) (.slice fa fs.length fc) fs (by simp [Act.eval]) (HOP.out.cp.row.below (HOP.out.cp.mid HM2.out.2).1) w2.heap.size 1 ⟨sn,ua,uc,sl⟩ (by simp [Act.eval]) (z6y w2 sn _ sl.length uc 39 _ rfl rfl rfl rfl) (by omega) (by simp;omega) ?_)
   intro v3 w3 hov3 hg3
   obtain ⟨sa3,sc3,hv3⟩:=hov3.form;rw [List.length_append,List.length_singleton] at hv3;subst hv3;have HM:Hid _:=HOP.out.more (e:=⟨sn,ua,uc,sl⟩) HM2.out.2 HM2.out.1 hov3 hg3;have e3:=keep HM.out.2 (by omega) c2
   have y3:=keep HM.out.2 (by omega) x2
   have hne:¬(Value.slice fa fs.length fc).ownBlock=some b:=fun he=>by have:=(HOP.out.cp.row.blk he).1;omega
   have d3:=(Only.ofGrownT hg3).cell (b:=b) (o:=off+k*2) (by simp;omega) hne (zb _ hbl2 k2)
   have d4:=(Only.ofGrownT hg3).cell (b:=b) (o:=off+k*2+1) (by simp;omega) hne (zb _ hbl2 k3)
   have g3:=(HM.out.2.frozen (p:=⟨w.heap.size+1+1,2,none⟩) (by simp)).trans f2
   have hl3:w.heap.size+1+1<w3.heap.size:=by have:=HM.out.2.size;omega
   clear hov3 hg3;refine hK.out _ _ (by exact ⟨e3,y3,d3,d4⟩) (fun hHeld=>?_)
   clear hK K
   try simp only [tkS]
   refine wpAnyH_done (by kernel_rfl) ?_ _
   simp only [z0d,List.drop_succ_cons,List.drop_zero]
   clear HE1 d0 d1 k0 k1 k2 k3 y3 d3 d4;have HCT2:Hid ((fs++[(⟨sn,ua,uc,sl⟩:El)]).map El.ct=(es.take (k+1)).map El.ct/\True):=⟨by rw [List.map_append,HST.out.1,HCS.out.1];rfl,trivial⟩
   have HMC:Hid (OwP7 w (w3.setCell ⟨w.heap.size+1+1,2,none⟩ (.slice sa3 (fs.length+1) sc3)) E O (some ⟨b,off,none⟩) n cap (.slice sa3 (fs.length+1) sc3) (fs++[⟨sn,ua,uc,sl⟩])):=HM.out.1;clear HM HM2 HCS HST HOP c0 c1 c2 f0 f1 f2 x0 x1 x2 r0 r1 r2 g0 g1 g2;go_wp2;go_roundw
   case rel=>exact ⟨k+1,_,_,by omega,by go_num,HCT2.out.1,HMC.out⟩
   case measure=>simp [intOf];omega
  ·have hkn:k=n:=by omega
   subst hkn;have HFS:Hid (fs.map El.ct=es.map El.ct/\True):=⟨by rw [HST.out.1,List.take_of_length_le (by rw [HLN.out.1];exact Nat.le_refl _)],trivial⟩
   have HLA:Hid _:=HOP.out.last HFS.out.1 HRG.out;clear HOP HST hbel x0 x1;go_wp2;refine bodyPost_ret (v:=.agg #[.int .i64 E,.int .i64 O,.slice fa fs.length fc]) (by simp [results,Tryz.results66,go_sem,r0,r1,r2]) rfl ?_
   exact HLA.out
def zo (zs:List Int) (L b:Nat) (t:Nat):List Int:=if b=0 then zs.take L else zs.set L ((t-2 ^ b:Nat):Int)
theorem zmt (t j:Nat) (hj:j<8) (h1:2 ^ j<=t) (h2:t<2 ^ (j+1)):bits .and .u8 (t:Int) ((2 ^ j-1) % 256)=((t-2 ^ j:Nat):Int):=by
 have hp:2 ^ j<=2 ^ 7:=Nat.pow_le_pow_right (by omega) (by omega)
 have hp0:0<2 ^ j:=Nat.pow_pos (by omega)
 rw [Nat.pow_succ] at h2;have e:(((2:Int) ^ j-1) % 256)=((2 ^ j-1:Nat):Int):=by
  have:((2:Int) ^ j)=((2 ^ j:Nat):Int):=by simp
  rw [this]
  omega
 rw [e,u8_and_nat t (2 ^ j-1) (by omega) (by omega),Nat.and_two_pow_sub_one_eq_mod]
 congr 1
 rw [Nat.mod_eq_sub_mod h1,Nat.mod_eq_of_lt (by omega)]
theorem zkd :bits .and .u8 0 1=0:=by decide
theorem zmf :bits .and .u8 1 1=1:=by decide
theorem z3s {B:Nat} {w w':World} (h:Below B w w') {b o:Nat} (hb:b<B) (hf:w.frozen? ⟨b,o,none⟩=false):w'.frozen? ⟨b,o,none⟩=false:=(h.frozen (p:=⟨b,o,none⟩) hb).trans hf
theorem z2d {w:World} (ob:Obj) {b o:Nat} (hb:b<w.heap.size) (hf:w.frozen? ⟨b,o,none⟩=false):(w.alloc ob).frozen? ⟨b,o,none⟩=false:=z3s ((Below.refl w.heap.size w).alloc nl ob) hb hf
theorem zjg {w w1:World} {x0 x1:Value} {T:TypeId} {o2:Obj} {row:Option Nat} (h:((w.alloc (.cells #[x0,x1] T)).alloc o2).grownBy w1 row) (hr:row=some (w.heap.size+1)) :
  w1.cell? ⟨w.heap.size,0,none⟩=some x0/\w1.cell? ⟨w.heap.size,1,none⟩=some x1/\w1.frozen? ⟨w.heap.size,0,none⟩=false/\w1.frozen? ⟨w.heap.size,1,none⟩=false/\Below w.heap.size w w1/\w.heap.size+1<w1.heap.size:=by
 subst hr;have hb:Below (w.heap.size+1) ((w.alloc (.cells #[x0,x1] T)).alloc o2) w1:=
  ⟨h.os,h.tape,h.output,h.size,fun k hk=>h.block k (by simp;omega) (by simp;omega)⟩
 have f:∀ j,((w.alloc (.cells #[x0,x1] T)).alloc o2).frozen? ⟨w.heap.size,j,none⟩=false:=fun j=>
  (((Below.refl (w.alloc (.cells #[x0,x1] T)).heap.size _).alloc nl o2).frozen (p:=⟨w.heap.size,j,none⟩) (by simp)).trans (by simp)
 have hs:=h.size
 simp at hs
 refine ⟨keep hb (by omega) (zb _ (by simp) (by simp)),keep hb (by omega) (zb _ (by simp) (by simp)),(hb.frozen (p:=⟨w.heap.size,0,none⟩) (by simp)).trans (f 0),(hb.frozen (p:=⟨w.heap.size,1,none⟩) (by simp)).trans (f 1),?_,by omega⟩
 exact (((Below.refl w.heap.size w).alloc nl _).alloc (by simp) _).trans (hb.mono (by omega))
theorem Mine.setC {w:World} {B U:Nat} {a:Option Addr} {cap:Nat} {zs:List Int} (h:Mine w B U a cap zs) {p:Addr} (hp:p.block<B) (u:Value):Mine (w.setCell p u) B U a cap zs:=
 h.only (Only.setCell (Only.refl (fun b=>b=p.block) w) (.inl rfl) u) (fun b h1 _=>by omega)
theorem zjk (zs:List Int) (L b t:Nat) (hL:zs.length=L+1):(zo zs L b t).length=(8*L+b+7) / 8\/8<=b:=by
 by_cases hb:b=0
 ·left
  rw [zo,if_pos hb,List.length_take,hL,hb]
  omega
 ·by_cases h8:b<8
  ·left
   rw [zo,if_neg hb,List.length_set,hL]
   omega
  ·right;omega
theorem zm5 (zs:List Int) (L b t:Nat) (hL:zs.length=L+1) (h1:2 ^ b<=t) (h2:t<2 ^ (b+1)) (hb:b<8) :
  okB ((8*L+b:Nat):Int) (zo zs L b t)=decide (8*L+b<=4096):=by
 have hlen:(zo zs L b t).length=(8*L+b+7) / 8:=(zjk zs L b t hL).resolve_right (by omega)
 by_cases hn:8*L+b<=4096
 ·rw [decide_eq_true hn]
  by_cases hb0:b=0
  ·subst hb0
   exact z7v (by omega) (by omega) (by rw [hlen];omega) (by omega)
  ·rw [z7n (by omega) (by omega) (by rw [hlen];omega) (by omega),hlen]
   rw [show (8*L+b+7) / 8-1=L from by omega,show (((8*L+b:Nat):Int) % 8).toNat=b from by omega]
   have hg:(zo zs L b t).getD L 0=((t-2 ^ b:Nat):Int):=by
    rw [zo,if_neg hb0]
    simp [hL]
   rw [hg];have hz:(t-2 ^ b) / 2 ^ b=0:=by
    rw [Nat.pow_succ] at h2;exact Nat.div_eq_of_lt (by omega)
   have e:(((t-2 ^ b:Nat):Int) / 2 ^ b)=(((t-2 ^ b) / 2 ^ b:Nat):Int):=by
    have:((2:Int) ^ b)=((2 ^ b:Nat):Int):=by simp
    rw [this];rfl
   rw [e,hz]
   rfl
 ·rw [decide_eq_false hn]
  exact zfi (by omega)
theorem z92 (a:Option Addr) (cap:Nat) (zs:List Int) (L b t:Nat) (w:World) (hb:Byt w a zs) (hL:zs.length=L+1) (hcap:L+1<=cap) (hl:L<=1048576) (ht:zs.getD L 0=(t:Int)) (h1:2 ^ b<=t) (h2:t<2 ^ (b+1)) (hb8:b<8) :
  Calls Tryz.prog 77 #[.slice a (L+1) cap] w fun e w'=>∃ a' cp,e=.returned (.tuple #[.agg #[.slice a' (zo zs L b t).length cp,.int .i64 ((8*L+b:Nat):Int)],.bool (okB ((8*L+b:Nat):Int) (zo zs L b t))]) /\
   Mine w' w.heap.size w'.heap.size a' cp (zo zs L b t)/\Below w.heap.size w w':=by
 obtain ⟨i0,hi,hz0,hz1,hz2⟩:=info_parts Tryz.infoU8;obtain ⟨ab,off,rfl,hbl,hc⟩:=hb.2 (by omega)
 have hr:=z0s hb.1 L;have ht1:1<=t:=Nat.le_trans (Nat.pow_pos (by omega)) h1
 have hcL:=hc L (by omega)
 rw [ht] at hcL hr;have hne:((t:Int) == 0)=false:=by simp;omega
 have hlen0:(((L:Int)+1) == 0)=false:=by simp;omega
 have HT:Hid (zs.getD L 0=(t:Int)):=ht;have HL:Hid (zs.length=L+1):=hL;have HC:Hid (∀ i,i<zs.length->w.cell? ⟨ab,off+i,none⟩=some (.int .u8 (zs.getD i 0))):=hc;have H1:Hid (2 ^ b<=t):=h1;have H2:Hid (t<2 ^ (b+1)):=h2;have hLp:(((L+1:Nat):Int))=(L:Int)+1:=by omega
 clear hc ht hL h1 h2
 go_enter Tryz.func77,Tryz.ntmps77
 go_wp2
 go_loop [4] (fun i=>∃ j:Nat,b<=j/\j<=7/\i=.int .i64 ((8*L+j:Nat):Int)) (fun i=>(intOf i).toNat)
 case atStart=>exact ⟨7,by omega,Nat.le_refl _,congrArg (Value.int .i64) (by omega)⟩
 case round=>
  obtain ⟨j,hbj,hj7,rfl⟩:=hrel;obtain ⟨q,hq⟩:∃ q,q=8*L+j:=⟨_,rfl⟩;have hqL:q / 8=L:=by omega
  have hqj:q % 8=j:=by omega
  have hq1:q / 8<L+1:=by omega
  have hq4:q<=8388616:=by omega
  have hcq:w.cell? ⟨ab,off+q / 8,none⟩=some (.int .u8 (t:Int)):=by rw [hqL];exact hcL
  have HQ:Hid (q=8*L+j):=hq;rw [<-hq];clear hq hqL hcL
  by_cases hlt:b<j
  ·have hdiv:t / 2 ^ (q % 8)=0:=by
    rw [hqj];refine Nat.div_eq_of_lt (Nat.lt_of_lt_of_le H2.out (Nat.pow_le_pow_right (by omega) (by omega)))
   have hdz:(t:Int) / 2 ^ (q % 8)=0:=by
    have e:(t:Int) / 2 ^ (q % 8)=((t / 2 ^ (q % 8):Nat):Int):=by simp
    rw [e,hdiv];rfl
   have ha:=zkd;have hz:((0:Int) == 0)=true:=rfl;clear hdiv hqj;go_wp2;go_round
   case rel=>exact ⟨j-1,by omega,by omega,congrArg (Value.int .i64) (by have:=HQ.out;omega)⟩
   case measure=>simp [intOf];have:=HQ.out;omega
  ·have hjb:j=b:=by omega
   subst hjb;have hdiv:t / 2 ^ (q % 8)=1:=by
    rw [hqj];have h1:=H1.out;have h2:=H2.out;rw [Nat.pow_succ] at h2;exact Nat.div_eq_of_lt_le (by omega) (by omega)
   have hdz:(t:Int) / 2 ^ (q % 8)=1:=by
    have e:(t:Int) / 2 ^ (q % 8)=((t / 2 ^ (q % 8):Nat):Int):=by simp
    rw [e,hdiv];rfl
   have ha:=zmf;have hz:((1:Int) == 0)=false:=rfl;have HQJ:Hid (q % 8=j):=hqj;clear hdiv hqj;have hown0:∀ o1:Obj,((w.alloc o1).alloc (Obj.cells #[] 5)).ownsRow (w.heap.size+1) 5 1 (.slice (some ⟨w.heap.size+1,0,none⟩) 0 0) 0 []:=fun o1=>
    ⟨rfl,.inr ⟨_,0,#[],rfl,Nat.le_refl _,by have:=heap_alloc_new (w.alloc o1) (Obj.cells #[] 5);simpa using this,Nat.le_refl _,by simp,rfl,rfl⟩⟩
   by_cases hj0:j=0
   ·subst hj0
    have hm8:(q+7) / 8=L:=by have:=HQ.out;omega
    have hm8':((q:Int)+7) / 8=(L:Int):=by have:=HQ.out;omega
    have hj8:(q:Int) % 8<=0:=by have:=HQJ.out;omega
    have hnews:∀ o1 o2:Obj,∀ i u,((zs.take L).map (Value.int .u8))[i]?=some u->((w.alloc o1).alloc o2).cell? ((⟨ab,off,none⟩:Addr).add i)=some u:=by
     intro o1 o2
     refine z1o (fun i hi=>?_)
     have hiL:i<L:=by have:=HL.out;simp at hi;omega
     rw [show (zs.take L).getD i 0=zs.getD i 0 from by simp [hiL]]
     exact zb _ (by simp;omega) (zb _ hbl (HC.out i (by have:=HL.out;omega)))
    by_cases hL0:0<L
    ·have hll:(zs.take L).length=L:=by rw [List.length_take,HL.out];omega
     have HLL:Hid ((zs.take L).length=L):=hll;clear hll;go_wp2_with (at_builtin;(refine wpList_append_lies _ rfl (.tmp 35) (.tmp 40) 22 rfl (w.heap.size+1) 5 i0 (.int .u8 0) 1 1 Tryz.underlying22 hi hz0 hz1 hz2 rfl (by decide) (.slice (some ⟨w.heap.size+1,0,none⟩) 0 0) 0 [] rfl (by exact hown0 _) ⟨ab,off,none⟩ L cap ((zs.take L).map (Value.int .u8)) rfl (by rw [List.length_map,HLL.out];simp) (by exact hnews _ _) (z19 _) hL0 (by unfold maxLen;omega) (by omega) (by simp) _ rfl ?_);intro g cp w1 hown hgrow hat hlt1)
     obtain ⟨r0,r1,f0,f1,hbb,hsz1⟩:=zjg hgrow rfl;have ho:Own w1 (w.heap.size+1) g cp (zs.take L):=⟨by rw [HLL.out];simpa using hown,fun z hz=>hb.1 z (List.mem_of_mem_take hz)⟩
     clear hown hgrow hat hcq hdz;have hyl:(zo zs L 0 t).length=L:=by rw [zo,if_pos rfl,List.length_take,HL.out];omega
     have hqq:((8*L+0:Nat):Int)=(q:Int):=by have:=HQ.out;omega
     have ho':Own w1 (w.heap.size+1) g cp (zo zs L 0 t):=by rw [zo,if_pos rfl];exact ho
     have hyl':(zo zs L 0 t).length<=1048577:=by rw [hyl];omega
     have HYL:Hid ((zo zs L 0 t).length=L):=hyl;clear hyl;generalize hYS:zo zs L 0 t=ys at *;have HYS:Hid (zo zs L 0 t=ys):=hYS;clear hYS;have HO2:Hid (Own w1 (w.heap.size+1) g cp ys):=ho';have HB2:Hid (Below w.heap.size w w1):=hbb;have hlt:=ho'.lt;clear ho ho' hbb;rw [show (Value.slice (some ⟨g,0,none⟩) L cp)=.slice (some ⟨g,0,none⟩) ys.length cp from by rw [HYL.out]]
     go_region_with (go_at_call 101;refine (z35 _ _ ys q _ (by exact (HO2.out.alloc _).byt) (by omega)).mono ?_;rintro e w5 ⟨rfl,hb5'⟩;have hb5:=Below.drewS hb5';have b0:w5.cell? ⟨w1.heap.size,0,none⟩=some (.slice (some ⟨g,0,none⟩) ys.length cp):=keep hb5 (by simp) (by simp);have b1:w5.cell? ⟨w1.heap.size,1,none⟩=some (.int .i64 q):=keep hb5 (by simp) (by simp);have x0:=keep hb5 (by simp;omega) (zb _ (by omega) r0);have x1:=keep hb5 (by simp;omega) (zb _ (by omega) r1);have y0:=z3s hb5 (by simp;omega) (z2d _ (by omega) f0);have y1:=z3s hb5 (by simp;omega) (z2d _ (by omega) f1))
     all_goals
      have hbb5:Below w.heap.size w w5:=(HB2.out.alloc (by omega) _).trans (hb5.mono (by show w.heap.size<=(w1.heap.push _).size;simp;omega))
      have ho5:Own w5 (w.heap.size+1) g cp ys:=(HO2.out.alloc _).below hb5 nl;have HO5:Hid (Own w5 (w.heap.size+1) g cp ys):=ho5;have HBB5:Hid (Below w.heap.size w w5):=hbb5;have hlt5:=ho5.lt;have HQQ:Hid (((8*L+0:Nat):Int)=(q:Int)):=hqq;clear hb5 hb5' hbb5 ho5 hqq;go_wp2;refine bodyPost_ret (v:=.tuple #[.agg #[.slice (some ⟨g,0,none⟩) ys.length cp,.int .i64 (q:Int)],.bool (okB (q:Int) ys)]) (by simp [results,Tryz.results77,go_sem,x0,x1]) rfl ⟨some ⟨g,0,none⟩,cp,by rw [HYS.out,HQQ.out],?_,?_⟩
      ·rw [HYS.out]
       have hO3:Only (fun b=>b=w.heap.size) w5 ((w5.setCell ⟨w.heap.size,0,none⟩ (.slice (some ⟨g,0,none⟩) ys.length cp)).setCell ⟨w.heap.size,1,none⟩ (.int .i64 (q:Int))):=
        Only.setCell (Only.setCell (Only.refl (fun b=>b=w.heap.size) w5) (p:=⟨w.heap.size,0,none⟩) (.inl rfl) _) (p:=⟨w.heap.size,1,none⟩) (.inl rfl) _
       exact ((HO5.out.mine.only hO3 (fun b h1 _=>by omega)).mono (by omega) (by simp [World.setCell]))
      ·exact ((HBB5.out.setCell (by simp) _).setCell (by simp) _)
    ·have hL00:L=0:=by omega
     subst hL00;go_wp2_with fail
     obtain ⟨w1,hw1⟩:∃ x,x=(w.alloc (Obj.cells #[.slice none 0 0,.int .i64 0] 106)).alloc (Obj.cells #[] 5):=⟨_,rfl⟩;obtain ⟨g,hg⟩:∃ x,x=w.heap.size+1:=⟨_,rfl⟩;obtain ⟨cp,hcp⟩:∃ x,x=0:=⟨_,rfl⟩;have hz:w.heap.size+1+1=w1.heap.size:=by rw [hw1];simp
     have ho:Own w1 (w.heap.size+1) g cp (zs.take 0):=by
      rw [hw1,hg,hcp];exact ⟨hown0 _,by simp⟩
     have r0:w1.cell? ⟨w.heap.size,0,none⟩=some (.slice none 0 0):=by rw [hw1];exact zb _ (by simp) (by simp)
     have r1:w1.cell? ⟨w.heap.size,1,none⟩=some (.int .i64 0):=by rw [hw1];exact zb _ (by simp) (by simp)
     have f0:w1.frozen? ⟨w.heap.size,0,none⟩=false:=by rw [hw1];exact z2d _ (by simp) (by simp)
     have f1:w1.frozen? ⟨w.heap.size,1,none⟩=false:=by rw [hw1];exact z2d _ (by simp) (by simp)
     have hbb:Below w.heap.size w w1:=by rw [hw1];exact ((Below.refl w.heap.size w).alloc nl _).alloc (by simp) _
     have hsz1:w.heap.size+1<w1.heap.size:=by omega
     rw [hz,<-hw1];rw [show (Value.slice (some ⟨w.heap.size+1,0,none⟩) 0 0)=.slice (some ⟨g,0,none⟩) 0 cp from by rw [hg,hcp]]
     clear hw1 hg hcp hz hcq hdz;have hyl:(zo zs 0 0 t).length=0:=by rw [zo,if_pos rfl,List.length_take,HL.out];omega
     have hqq:((8*0+0:Nat):Int)=(q:Int):=by have:=HQ.out;omega
     have ho':Own w1 (w.heap.size+1) g cp (zo zs 0 0 t):=by rw [zo,if_pos rfl];exact ho
     have hyl':(zo zs 0 0 t).length<=1048577:=by rw [hyl];omega
     have HYL:Hid ((zo zs 0 0 t).length=0):=hyl;clear hyl;generalize hYS:zo zs 0 0 t=ys at *;have HYS:Hid (zo zs 0 0 t=ys):=hYS;clear hYS;have HO2:Hid (Own w1 (w.heap.size+1) g cp ys):=ho';have HB2:Hid (Below w.heap.size w w1):=hbb;have hlt:=ho'.lt;clear ho ho' hbb;rw [show (Value.slice (some ⟨g,0,none⟩) 0 cp)=.slice (some ⟨g,0,none⟩) ys.length cp from by rw [HYL.out]]
     go_region_with (go_at_call 101;refine (z35 _ _ ys q _ (by exact (HO2.out.alloc _).byt) (by omega)).mono ?_;rintro e w5 ⟨rfl,hb5'⟩;have hb5:=Below.drewS hb5';have b0:w5.cell? ⟨w1.heap.size,0,none⟩=some (.slice (some ⟨g,0,none⟩) ys.length cp):=keep hb5 (by simp) (by simp);have b1:w5.cell? ⟨w1.heap.size,1,none⟩=some (.int .i64 q):=keep hb5 (by simp) (by simp);have x0:=keep hb5 (by simp;omega) (zb _ (by omega) r0);have x1:=keep hb5 (by simp;omega) (zb _ (by omega) r1);have y0:=z3s hb5 (by simp;omega) (z2d _ (by omega) f0);have y1:=z3s hb5 (by simp;omega) (z2d _ (by omega) f1))
     all_goals
      have hbb5:Below w.heap.size w w5:=(HB2.out.alloc (by omega) _).trans (hb5.mono (by show w.heap.size<=(w1.heap.push _).size;simp;omega))
      have ho5:Own w5 (w.heap.size+1) g cp ys:=(HO2.out.alloc _).below hb5 nl;have HO5:Hid (Own w5 (w.heap.size+1) g cp ys):=ho5;have HBB5:Hid (Below w.heap.size w w5):=hbb5;have hlt5:=ho5.lt;have HQQ:Hid (((8*0+0:Nat):Int)=(q:Int)):=hqq;clear hb5 hb5' hbb5 ho5 hqq;go_wp2;refine bodyPost_ret (v:=.tuple #[.agg #[.slice (some ⟨g,0,none⟩) ys.length cp,.int .i64 (q:Int)],.bool (okB (q:Int) ys)]) (by simp [results,Tryz.results77,go_sem,x0,x1]) rfl ⟨some ⟨g,0,none⟩,cp,by rw [HYS.out,HQQ.out],?_,?_⟩
      ·rw [HYS.out]
       have hO3:Only (fun b=>b=w.heap.size) w5 ((w5.setCell ⟨w.heap.size,0,none⟩ (.slice (some ⟨g,0,none⟩) ys.length cp)).setCell ⟨w.heap.size,1,none⟩ (.int .i64 (q:Int))):=
        Only.setCell (Only.setCell (Only.refl (fun b=>b=w.heap.size) w5) (p:=⟨w.heap.size,0,none⟩) (.inl rfl) _) (p:=⟨w.heap.size,1,none⟩) (.inl rfl) _
       exact ((HO5.out.mine.only hO3 (fun b h1 _=>by omega)).mono (by omega) (by simp [World.setCell]))
      ·exact ((HBB5.out.setCell (by simp) _).setCell (by simp) _)
   ·have hm8:(q+7) / 8=L+1:=by have:=HQ.out;omega
    have hm8':((q:Int)+7) / 8=(L:Int)+1:=by have:=HQ.out;omega
    have hnews:∀ o1 o2:Obj,∀ i u,(zs.map (Value.int .u8))[i]?=some u->((w.alloc o1).alloc o2).cell? ((⟨ab,off,none⟩:Addr).add i)=some u:=by
     intro o1 o2
     refine z1o (fun i hi=>?_)
     exact zb _ (by simp;omega) (zb _ hbl (HC.out i hi))
    have hj8:(0:Int)<(q:Int) % 8:=by have:=HQJ.out;omega
    go_wp2_with (at_builtin;refine wpList_append_lies _ rfl (.tmp 35) (.tmp 40) 22 rfl (w.heap.size+1) 5 i0 (.int .u8 0) 1 1 Tryz.underlying22 hi hz0 hz1 hz2 rfl (by decide) (.slice (some ⟨w.heap.size+1,0,none⟩) 0 0) 0 [] rfl (by exact hown0 _) ⟨ab,off,none⟩ (L+1) cap (zs.map (Value.int .u8)) rfl (by have:=HL.out;simp [this]) (by exact hnews _ _) (z19 zs) (by omega) (by unfold maxLen;omega) (by omega) (by simp) _ rfl ?_;intro g cp w1 hown hgrow hat hlt1)
    obtain ⟨r0,r1,f0,f1,hbb,hsz1⟩:=zjg hgrow rfl;have ho:Own w1 (w.heap.size+1) g cp zs:=⟨by have:=HL.out;rw [this];simpa using hown,hb.1⟩
    have hlt:=ho.lt;have cg:=ho.cell (q / 8) (by have:=HL.out;omega)
    rw [show q / 8=L from by have:=HQ.out;omega,HT.out,show L=q / 8 from by have:=HQ.out;omega] at cg
    have fg:=ho.frozen (q / 8);have HO:Hid (Own w1 (w.heap.size+1) g cp zs):=ho;have HBB:Hid (Below w.heap.size w w1):=hbb;have hg1:g≠w1.heap.size:=by omega
    clear hown hgrow hat ho hbb hcq hdz;have hmask:bits .and .u8 (t:Int) ((2 ^ (q % 8)-1) % 256)=((t-2 ^ j:Nat):Int):=by rw [HQJ.out];exact zmt t j hb8 H1.out H2.out
    have HMASK:Hid (bits .and .u8 (t:Int) ((2 ^ (q % 8)-1) % 256)=((t-2 ^ j:Nat):Int)):=hmask;clear hmask
    go_region
    go_wp2_with fail
    rw [HMASK.out];have hrng:(0:Int)<=((t-2 ^ j:Nat):Int)/\((t-2 ^ j:Nat):Int)<=255:=by
     generalize 2 ^ j=pj
     omega
    have ho2:=(HO.out.store (q / 8) ((t-2 ^ j:Nat):Int) hrng);rw [show q / 8=L from by have:=HQ.out;omega] at ho2
    rw [show q / 8=L from by have:=HQ.out;omega]
    have hY:zo zs L j t=zs.set L ((t-2 ^ j:Nat):Int):=by rw [zo,if_neg hj0]
    rw [<-hY] at ho2;have hyl:(zo zs L j t).length=L+1:=by rw [hY,List.length_set];exact HL.out
    have hbb2:Below w.heap.size w (w1.setCell ⟨g,L,none⟩ (.int .u8 ((t-2 ^ j:Nat):Int))):=HBB.out.setCell (by simp;omega) _
    have hgr:g≠w.heap.size:=by omega
    have r0':=(World.cell?_setCell_other w1 ⟨g,L,none⟩ ⟨w.heap.size,0,none⟩ (.int .u8 ((t-2 ^ j:Nat):Int)) (by simp)).trans r0
    have r1':=(World.cell?_setCell_other w1 ⟨g,L,none⟩ ⟨w.heap.size,1,none⟩ (.int .u8 ((t-2 ^ j:Nat):Int)) (by simp)).trans r1
    have f0':(w1.setCell ⟨g,L,none⟩ (.int .u8 ((t-2 ^ j:Nat):Int))).frozen? ⟨w.heap.size,0,none⟩=false:=by simpa using f0
    have f1':(w1.setCell ⟨g,L,none⟩ (.int .u8 ((t-2 ^ j:Nat):Int))).frozen? ⟨w.heap.size,1,none⟩=false:=by simpa using f1
    have hz2':w1.heap.size=(w1.setCell ⟨g,L,none⟩ (.int .u8 ((t-2 ^ j:Nat):Int))).heap.size:=by simp [World.setCell]
    rw [hz2'];rw [hz2'] at hsz1;have hlt2:=ho2.lt;clear r0 r1 f0 f1 cg fg hz2' HO HBB hlt1 hlt hg1 HMASK hrng hgr;generalize w1.setCell ⟨g,L,none⟩ (.int .u8 ((t-2 ^ j:Nat):Int))=w2 at *;have hqq:((8*L+j:Nat):Int)=(q:Int):=by have:=HQ.out;omega
    rw [<-hyl];have hyl':(zo zs L j t).length<=1048577:=by rw [hyl];omega
    clear hY hyl;generalize hYS:zo zs L j t=ys at *;have HYS:Hid (zo zs L j t=ys):=hYS;clear hYS;have HO2:Hid (Own w2 (w.heap.size+1) g cp ys):=ho2;have HB2:Hid (Below w.heap.size w w2):=hbb2;clear ho2 hbb2
    go_region_with (go_at_call 101;refine (z35 _ _ ys q _ (by exact (HO2.out.alloc _).byt) (by omega)).mono ?_;rintro e w5 ⟨rfl,hb5'⟩;have hb5:=Below.drewS hb5';have b0:w5.cell? ⟨w2.heap.size,0,none⟩=some (.slice (some ⟨g,0,none⟩) ys.length cp):=keep hb5 (by simp) (by simp);have b1:w5.cell? ⟨w2.heap.size,1,none⟩=some (.int .i64 q):=keep hb5 (by simp) (by simp);have x0:=keep hb5 (by simp;omega) (zb _ (by omega) r0');have x1:=keep hb5 (by simp;omega) (zb _ (by omega) r1');have y0:=z3s hb5 (by simp;omega) (z2d _ (by omega) f0');have y1:=z3s hb5 (by simp;omega) (z2d _ (by omega) f1'))
    all_goals
     have hbb5:Below w.heap.size w w5:=(HB2.out.alloc (by omega) _).drew.trans (hb5.mono (by show w.heap.size<=(w2.heap.push _).size;simp;omega))
     have ho5:Own w5 (w.heap.size+1) g cp ys:=((HO2.out.alloc _).drewN 1).below hb5 nl;have HO5:Hid (Own w5 (w.heap.size+1) g cp ys):=ho5;have HBB5:Hid (Below w.heap.size w w5):=hbb5;have hlt5:=ho5.lt;have HQQ:Hid (((8*L+j:Nat):Int)=(q:Int)):=hqq;clear hb5 hb5' hbb5 ho5 hqq;go_wp2;refine bodyPost_ret (v:=.tuple #[.agg #[.slice (some ⟨g,0,none⟩) ys.length cp,.int .i64 (q:Int)],.bool (okB (q:Int) ys)]) (by simp [results,Tryz.results77,go_sem,x0,x1]) rfl ⟨some ⟨g,0,none⟩,cp,by rw [HYS.out,HQQ.out],?_,?_⟩
     ·rw [HYS.out]
      have hO3:Only (fun b=>b=w.heap.size) w5 ((w5.setCell ⟨w.heap.size,0,none⟩ (.slice (some ⟨g,0,none⟩) ys.length cp)).setCell ⟨w.heap.size,1,none⟩ (.int .i64 (q:Int))):=
       Only.setCell (Only.setCell (Only.refl (fun b=>b=w.heap.size) w5) (p:=⟨w.heap.size,0,none⟩) (.inl rfl) _) (p:=⟨w.heap.size,1,none⟩) (.inl rfl) _
      exact ((HO5.out.mine.only hO3 (fun b h1 _=>by omega)).mono (by omega) (by simp [World.setCell]))
     ·exact ((HBB5.out.setCell (by simp) _).setCell (by simp) _)
end Go.Proofs.YtjmcjbmjgpponaaGreatDoor
