/-
  PackAdd, both. (Typed by wip/mkpa.py.)
-/
import Derived.Test.YtiabhcfcpkkhoaaGreatDoorItOwn
import Derived.Test.YtiabhcfcpkkhoaaGreatDoorItAdd
namespace Go.Proofs.YtiabhcfcpkkhoaaGreatDoor
open Go.RowKit
set_option linter.unusedVariables false
set_option linter.unusedSimpArgs false

theorem elets_but (x:Int) (es:List El):elets (butL x es)≤elets es:=by
  induction es with
  | nil => simp [butL, elets]
  | cons e es ih =>
    unfold butL at *
    rw [List.filter_cons]
    split
    · simp only [elets];omega
    · simp only [elets];omega
theorem elets_add (es:List El) (q:El):elets (addL es q)≤elets es+q.ls.length:=by
  have:=elets_but q.n es
  unfold addL
  rw [elets_app]
  simp only [elets]
  omega
theorem addL_mem {es:List El} {q e:El} (h:e ∈ addL es q):e ∈ es∨e=q:=by
  rcases List.mem_append.1 h with h | h
  · exact .inl (List.mem_filter.1 h).1
  · exact .inr (by simpa using h)
theorem addL_len (es:List El) (q:El):(addL es q).length≤es.length+1:=by
  unfold addL
  rw [List.length_append]
  have:=butL_len q.n es
  simp
  exact this
theorem but_ct {es ts:List El} (h:ts.map El.ct=es.map El.ct) (x:Int):(butL x ts).map El.ct=(butL x es).map El.ct:=by
  have key:∀ l:List El,(butL x l).map El.ct=(l.map El.ct).filter (fun p=>p.1 != x):=by
    intro l
    induction l with
    | nil => rfl
    | cons e l ih =>
      unfold butL at *
      rw [List.filter_cons,List.map_cons,List.filter_cons]
      have hc:(El.ct e).1=e.n:=rfl
      rw [hc]
      split
      · rw [List.map_cons,ih]
      · exact ih
  rw [key,key,h]
theorem add_ct {es ts:List El} {q p:El} (h:ts.map El.ct=es.map El.ct) (hq:p.ct=q.ct):(addL ts p).map El.ct=(addL es q).map El.ct:=by
  have hn:p.n=q.n:=congrArg Prod.fst hq
  unfold addL
  rw [List.map_append,List.map_append,hn,but_ct h]
  simp [hq]
theorem szP_ct {es ts:List El} (h:ts.map El.ct=es.map El.ct):szP ts=szP es:=by unfold szP;rw [len_ctE h,elets_ct _ _ h]

def PaP (f:List Int→Option (List Int)) (E O:Int) (es:List El) (q:El) (E' O':Int) (fs:List El) (R:Bool):Prop:=
  (¬ (PkR f E O es∧itOk f q)∧E'=0∧O'=0∧fs=[]∧R=false)∨((PkR f E O es∧itOk f q)∧256<szP (addL es q)∧E'=E∧O'=O∧fs=es∧R=false)∨((PkR f E O es∧itOk f q)∧szP (addL es q)≤256∧E'=E∧O'=O∧fs=addL es q∧R=true)
theorem PaP.ex (f:List Int→Option (List Int)) (E O:Int) (es:List El) (q:El):∃ E' O' fs R,PaP f E O es q E' O' fs R:=by
  by_cases h:PkR f E O es∧itOk f q
  · by_cases hz:szP (addL es q)≤256
    · exact ⟨_,_,_,_,.inr (.inr ⟨h,hz,rfl,rfl,rfl,rfl⟩)⟩
    · exact ⟨_,_,_,_,.inr (.inl ⟨h,by omega,rfl,rfl,rfl,rfl⟩)⟩
  · exact ⟨_,_,_,_,.inl ⟨h,rfl,rfl,rfl,rfl⟩⟩
theorem PaP.same {f:List Int→Option (List Int)} {E O:Int} {es ts:List El} {q p:El} {E1 O1 E2 O2:Int} {fs gs:List El} {R S:Bool} (h:PaP f E O ts p E1 O1 fs R) (k:PaP f E O es q E2 O2 gs S) (hc:ts.map El.ct=es.map El.ct) (hq:p.ct=q.ct):E1=E2∧O1=O2∧fs.map El.ct=gs.map El.ct∧R=S:=by
  have hi:(PkR f E O ts∧itOk f p)↔(PkR f E O es∧itOk f q):=⟨fun h=>⟨h.1.ct hc,(itOk_ct hq).1 h.2⟩,fun h=>⟨h.1.ct hc.symm,(itOk_ct hq).2 h.2⟩⟩
  have hs:szP (addL ts p)=szP (addL es q):=szP_ct (add_ct hc hq)
  rcases h with ⟨h0,rfl,rfl,rfl,rfl⟩ | ⟨h0,h1,rfl,rfl,rfl,rfl⟩ | ⟨h0,h1,rfl,rfl,rfl,rfl⟩ <;> rcases k with ⟨k0,rfl,rfl,rfl,rfl⟩ | ⟨k0,k1,rfl,rfl,rfl,rfl⟩ | ⟨k0,k1,rfl,rfl,rfl,rfl⟩
  · exact ⟨rfl,rfl,rfl,rfl⟩
  · exact absurd (hi.2 k0) h0
  · exact absurd (hi.2 k0) h0
  · exact absurd (hi.1 h0) k0
  · exact ⟨rfl,rfl,hc,rfl⟩
  · omega
  · exact absurd (hi.1 h0) k0
  · omega
  · exact ⟨rfl,rfl,add_ct hc hq,rfl⟩
def PaA (f:List Int→Option (List Int)) (E O:Int) (es:List El) (q:El) (w:World) (r:Ending) (w':World):Prop:=
  (∃ E' O' fs R v ts,PaP f E O es q E' O' fs R∧r=.returned (.tuple #[.agg #[.int .i64 E',.int .i64 O',v],.bool R])∧CopT w' w.heap.size v ts fs)∧Below w.heap.size w w'
structure PaB (w W:World) (E O:Int) (a:Option Addr) (n cap:Nat) (q:El):Prop where
  bel:Below w.heap.size w W
  bx:Box3 W w.heap.size (.int .i64 E) (.int .i64 O) (.slice a n cap)
  bq:Box2 W (w.heap.size+1) (.int .i64 q.n) (.slice q.a q.ls.length q.c)
  by':Box3 W (w.heap.size+1+1) (.int .i64 0) (.int .i64 0) (.slice none 0 0)
theorem PaB.start (w:World) (E O:Int) (a:Option Addr) (n cap:Nat) (q:El) (T T1 T2:TypeId):PaB w (((w.alloc (Obj.cells #[Value.int IntKind.i64 E,Value.int IntKind.i64 O,Value.slice a n cap] T)).alloc (Obj.cells #[Value.int IntKind.i64 q.n,Value.slice q.a q.ls.length q.c] T1)).alloc (Obj.cells #[Value.int IntKind.i64 0,Value.int IntKind.i64 0,Value.slice none 0 0] T2)) E O a n cap q:=by
  have h1:=((Box3.new w (.int .i64 E) (.int .i64 O) (.slice a n cap) T).alloc (Obj.cells #[Value.int IntKind.i64 q.n,Value.slice q.a q.ls.length q.c] T1)).alloc (Obj.cells #[Value.int IntKind.i64 0,Value.int IntKind.i64 0,Value.slice none 0 0] T2)
  have h0:=(Box2.new (w.alloc (Obj.cells #[Value.int IntKind.i64 E,Value.int IntKind.i64 O,Value.slice a n cap] T)) (.int .i64 q.n) (.slice q.a q.ls.length q.c) T1).alloc (Obj.cells #[Value.int IntKind.i64 0,Value.int IntKind.i64 0,Value.slice none 0 0] T2)
  have h2:=Box3.new ((w.alloc (Obj.cells #[Value.int IntKind.i64 E,Value.int IntKind.i64 O,Value.slice a n cap] T)).alloc (Obj.cells #[Value.int IntKind.i64 q.n,Value.slice q.a q.ls.length q.c] T1)) (.int .i64 0) (.int .i64 0) (.slice none 0 0) T2
  simp only [World.size_alloc] at h0 h2
  exact ⟨(((Below.refl _ _).alloc (Nat.le_refl _) _).alloc (by simp) _).alloc (by simp;omega) _,h1,h0,h2⟩
theorem PaB.step {w W W':World} {E O:Int} {a:Option Addr} {n cap:Nat} {q:El} (h:PaB w W E O a n cap q) (hb:Below W.heap.size W W'):PaB w W' E O a n cap q:=⟨h.bel.trans (hb.mono h.bel.size),h.bx.step hb,h.bq.keep hb h.bq.lt,h.by'.step hb⟩
theorem PaB.last {w W:World} {E O E' O':Int} {a:Option Addr} {n cap U:Nat} {q:El} {v:Value} {ts fs:List El} (h:PaB w W E O a n cap q) (hc:CopT W U v ts fs) (hU:w.heap.size+1+1+1≤U) :
    CopT (((W.setCell ⟨w.heap.size+1+1,0,none⟩ (.int .i64 E')).setCell ⟨w.heap.size+1+1,1,none⟩ (.int .i64 O')).setCell ⟨w.heap.size+1+1,2,none⟩ v) w.heap.size v ts fs∧Below w.heap.size w (((W.setCell ⟨w.heap.size+1+1,0,none⟩ (.int .i64 E')).setCell ⟨w.heap.size+1+1,1,none⟩ (.int .i64 O')).setCell ⟨w.heap.size+1+1,2,none⟩ v):=by
  have hon:Only (fun b=>b=w.heap.size+1+1) W (((W.setCell ⟨w.heap.size+1+1,0,none⟩ (.int .i64 E')).setCell ⟨w.heap.size+1+1,1,none⟩ (.int .i64 O')).setCell ⟨w.heap.size+1+1,2,none⟩ v):=
    (((Only.refl (fun b=>b=w.heap.size+1+1) W).setCell (p:=⟨w.heap.size+1+1,0,none⟩) (.inl rfl) _).setCell (p:=⟨w.heap.size+1+1,1,none⟩) (.inl rfl) _).setCell (p:=⟨w.heap.size+1+1,2,none⟩) (.inl rfl) _
  exact ⟨(hc.stay hon (fun k hk e=>by omega)).weak (by omega),h.bel.trans (hon.below (by have:=h.bel.size;omega) (by intro k hk;omega))⟩

set_option maxRecDepth 20000 in
set_option maxHeartbeats 4000000 in
theorem specPackAdd_any (f:List Int→Option (List Int)) (hf:DecF f) (E O:Int) (a:Option Addr) (cap:Nat) (es:List El) (xn:Int) (xa:Option Addr) (xc:Nat) (xl:List Int) (w:World) (hi:ItI w a es) (hx:FewJ es) (hq:Byt w xa xl) (hqc:xl.length≤xc) (hql:xl.length≤1048576) (hqr:rE true ⟨xn,xa,xc,xl⟩) :
    Calls Tryz.prog 6 #[.agg #[.int .i64 E,.int .i64 O,.slice a es.length cap],.agg #[.int .i64 xn,.slice xa xl.length xc]] w (PaA f E O es ⟨xn,xa,xc,xl⟩ w):=by
  have hst:=PaB.start w E O a es.length cap ⟨xn,xa,xc,xl⟩ 32 36 32
  have HOK:=specPackOk_any f hf E O a cap es _ (hi.below hst.bel (Nat.le_refl _)) hx
  have HB:Hid (ItI w a es∧FewJ es∧Byt w xa xl∧rE true ⟨xn,xa,xc,xl⟩∧DecF f):=⟨hi,hx,hq,hqr,hf⟩
  clear hi hx hq hqr hf
  go_enter Tryz.func6,Tryz.ntmps6
  go_wp2_with fail
  generalize ((w.alloc (Obj.cells #[Value.int IntKind.i64 E,Value.int IntKind.i64 O,Value.slice a es.length cap] 32)).alloc (Obj.cells #[Value.int IntKind.i64 xn,Value.slice xa xl.length xc] 36)).alloc (Obj.cells #[Value.int IntKind.i64 0,Value.int IntKind.i64 0,Value.slice none 0 0] 32)=W0 at *
  refine HOK.mono ?_
  clear HOK
  rintro e w1 ⟨⟨hp,rfl⟩ | ⟨hp,rfl⟩,hb1⟩
  rotate_left 1
  · have hst1:=hst.step hb1
    have HLA:Hid _:=PaB.last (E':=0) (O':=0) (v:=.slice none 0 0) (ts:=[]) (fs:=[]) (U:=w.heap.size+1+1+1) hst1 ⟨rfl,OVt.nil _ _,Deep.nil _ _,by simp⟩ (Nat.le_refl _)
    have HP:Hid (PaP f E O es ⟨xn,xa,xc,xl⟩ 0 0 [] false):=.inl ⟨fun h=>hp h.1,rfl,rfl,rfl,rfl⟩
    obtain ⟨r0,r1,r2,g0,g1,g2,rl⟩:=hst1.by'
    clear hb1 hp hst hst1
    go_wp2
    refine bodyPost_ret (v:=.tuple #[.agg #[.int .i64 0,.int .i64 0,.slice none 0 0],.bool false]) (by simp [results,Tryz.results6,go_sem,r0,r1,r2]) rfl ?_
    exact ⟨⟨_,_,_,_,_,_,HP.out,rfl,HLA.out.1⟩,HLA.out.2⟩
  have hst1:=hst.step hb1
  have HIT:=l7item_any f HB.out.2.2.2.2 xn xa xc xl w1 (HB.out.2.2.1.below hst1.bel (Nat.le_refl _)) hqc hql
  have HPK:Hid (PkR f E O es):=hp
  have hn16:=hp.n
  have hsz6:=hp.sz
  have HST1:Hid _:=hst1
  obtain ⟨q0,q1,-,-,ql⟩:=hst1.bq
  simp only at q0 q1
  clear hb1 hp hst hst1
  go_wp2_with fail
  refine HIT.mono ?_
  clear HIT
  rintro e w2 ⟨⟨hok,rfl⟩ | ⟨hok,rfl⟩,hb2⟩
  rotate_left 1
  · have hst1:=HST1.out.step hb2
    have HLA:Hid _:=PaB.last (E':=0) (O':=0) (v:=.slice none 0 0) (ts:=[]) (fs:=[]) (U:=w.heap.size+1+1+1) hst1 ⟨rfl,OVt.nil _ _,Deep.nil _ _,by simp⟩ (Nat.le_refl _)
    have HP:Hid (PaP f E O es ⟨xn,xa,xc,xl⟩ 0 0 [] false):=.inl ⟨fun h=>hok h.2,rfl,rfl,rfl,rfl⟩
    obtain ⟨r0,r1,r2,g0,g1,g2,rl⟩:=hst1.by'
    clear hb2 hok hst1 q0 q1
    go_wp2
    refine bodyPost_ret (v:=.tuple #[.agg #[.int .i64 0,.int .i64 0,.slice none 0 0],.bool false]) (by simp [results,Tryz.results6,go_sem,r0,r1,r2]) rfl ?_
    exact ⟨⟨_,_,_,_,_,_,HP.out,rfl,HLA.out.1⟩,HLA.out.2⟩
  have hst2:=HST1.out.step hb2
  have hxl:xl.length≤65:=by
    rcases hok.2 with h | h
    · simp only at h;rw [h];simp
    · obtain ⟨bs,hbs⟩:=Option.isSome_iff_exists.1 h
      exact ((HB.out.2.2.2.2 xl hql HB.out.2.2.1.1).1 bs hbs).2.2
  have HOK:Hid (itOk f ⟨xn,xa,xc,xl⟩):=hok
  have HAD:=l7add_any E O a cap es xn xa xc xl w2 (HB.out.1.els.below hst2.bel (Nat.le_refl _)) (by omega)
  have HST2:Hid _:=hst2
  obtain ⟨p0,p1,p2,-,-,-,pl⟩:=hst2.bx
  obtain ⟨y0,y1,-,-,yl⟩:=hst2.bq
  simp only at y0 y1
  clear hb2 hok hst2 q0 q1 ql HST1
  go_wp2_with fail
  refine HAD.mono ?_
  clear HAD
  rintro e w3 ⟨⟨v,rfl,hov⟩,hb3⟩
  obtain ⟨va,vc,rfl⟩:=hov.form
  obtain ⟨gs,hgs⟩:∃ gs,gs=addL es ⟨xn,xa,xc,xl⟩:=⟨_,rfl⟩
  rw [← hgs] at hov ⊢
  have hst3:=HST2.out.step hb3
  have hba:Below w3.heap.size w3 (w3.alloc (Obj.cells #[Value.int IntKind.i64 E,Value.int IntKind.i64 O,Value.slice va gs.length vc] 32)):=(Below.refl _ _).alloc (Nat.le_refl _) _
  have hst4:=hst3.step hba
  have hm4:=Box3.new w3 (.int .i64 E) (.int .i64 O) (.slice va gs.length vc) 32
  have hgl:gs.length≤17:=by rw [hgs];have:=addL_len es ⟨xn,xa,xc,xl⟩;omega
  have hge:elets gs≤400:=by rw [hgs];have:=elets_add es ⟨xn,xa,xc,xl⟩;simp only at this;unfold szP at hsz6;omega
  have hel:elets es≤256:=by unfold szP at hsz6;omega
  have hEls:Els true (w3.alloc (Obj.cells #[Value.int IntKind.i64 E,Value.int IntKind.i64 O,Value.slice va gs.length vc] 32)) va gs:=by
    refine (hov.below hba).els (fun e he=>?_)
    rw [hgs] at he
    rcases addL_mem he with h | rfl
    · exact ⟨(HB.out.1.els.1 e h).1,(HB.out.1.els.1 e h).2.below hst4.bel (Nat.le_refl _)⟩
    · exact ⟨HB.out.2.2.2.1,HB.out.2.2.1.below hst4.bel (Nat.le_refl _)⟩
  have HGS:Hid (gs=addL es ⟨xn,xa,xc,xl⟩∧True):=⟨hgs,trivial⟩
  have HSZ:=l7size_any E O va vc gs _ hEls (by omega) (by omega)
  have HE4:Hid (Els true (w3.alloc (Obj.cells #[Value.int IntKind.i64 E,Value.int IntKind.i64 O,Value.slice va gs.length vc] 32)) va gs∧PaB w (w3.alloc (Obj.cells #[Value.int IntKind.i64 E,Value.int IntKind.i64 O,Value.slice va gs.length vc] 32)) E O a es.length cap ⟨xn,xa,xc,xl⟩∧Box3 (w3.alloc (Obj.cells #[Value.int IntKind.i64 E,Value.int IntKind.i64 O,Value.slice va gs.length vc] 32)) w3.heap.size (.int .i64 E) (.int .i64 O) (.slice va gs.length vc)∧w.heap.size+1+1+1≤w3.heap.size):=⟨hEls,hst4,hm4,hst3.by'.lt⟩
  obtain ⟨m0,m1,m2,-,-,-,ml⟩:=hm4
  clear hov hb3 hst3 hba hst4 hEls p0 p1 p2 pl y0 y1 yl HST2 hgs hsz6
  have hzb:szP gs≤1000:=by unfold szP;omega
  go_wp2_with fail
  generalize w3.alloc (Obj.cells #[Value.int IntKind.i64 E,Value.int IntKind.i64 O,Value.slice va gs.length vc] 32)=W4 at *
  refine HSZ.mono ?_
  clear HSZ
  rintro e w5 ⟨rfl,hb5⟩
  have hst5:=HE4.out.2.1.step hb5
  have hm5:=HE4.out.2.2.1.step hb5
  have hsm:∀ (l:List El) (B:Nat),elets l≤B→∀ s ∈ l,s.ls.length≤B:=fun l B h s hs=>by have:=elets_mem hs;omega
  have hU:w.heap.size+1+1+1≤w5.heap.size:=by have:=hst5.by'.lt;omega
  by_cases hz:szP gs≤256
  · have HP:Hid (PaP f E O es ⟨xn,xa,xc,xl⟩ E O gs true):=.inr (.inr ⟨⟨HPK.out,HOK.out⟩,by rw [← HGS.out.1];exact hz,rfl,rfl,HGS.out.1,rfl⟩)
    have HOW:=l7own_any E O va vc gs w5 (HE4.out.1.below hb5 (Nat.le_refl _)) (by omega) (hsm gs 1000000 (by omega))
    have HST5:Hid _:=hst5
    obtain ⟨m0,m1,m2,-,-,-,ml⟩:=hm5
    generalize szP gs=Z at *
    have hz2:¬ ((256:Int)<(Z:Int)):=by omega
    clear hb5 hst5 hz hsm
    go_wp2_with fail
    refine HOW.mono ?_
    clear HOW
    rintro e w6 ⟨⟨v6,ts,rfl,hcop⟩,hb6⟩
    have hst6:=HST5.out.step hb6
    obtain ⟨va6,vc6,rfl⟩:=hcop.row.form
    have HLA:Hid _:=PaB.last (E':=E) (O':=O) hst6 hcop hU
    obtain ⟨r0,r1,r2,g0,g1,g2,rl⟩:=hst6.by'
    clear hb6 hst6 hcop m0 m1 m2
    go_wp2
    refine bodyPost_ret (v:=.tuple #[.agg #[.int .i64 E,.int .i64 O,.slice va6 ts.length vc6],.bool true]) (by simp [results,Tryz.results6,go_sem,r0,r1,r2]) rfl ?_
    exact ⟨⟨_,_,_,_,_,_,HP.out,rfl,HLA.out.1⟩,HLA.out.2⟩
  · have HP:Hid (PaP f E O es ⟨xn,xa,xc,xl⟩ E O es false):=.inr (.inl ⟨⟨HPK.out,HOK.out⟩,by rw [← HGS.out.1];omega,rfl,rfl,rfl,rfl⟩)
    have HOW:=l7own_any E O a cap es w5 (HB.out.1.els.below hst5.bel (Nat.le_refl _)) (by omega) (hsm es 1000000 (by omega))
    have HST5:Hid _:=hst5
    obtain ⟨p0,p1,p2,-,-,-,pl⟩:=hst5.bx
    generalize szP gs=Z at *
    have hz2:(256:Int)<(Z:Int):=by omega
    clear hb5 hst5 hz hsm hm5
    go_wp2_with fail
    refine HOW.mono ?_
    clear HOW
    rintro e w6 ⟨⟨v6,ts,rfl,hcop⟩,hb6⟩
    have hst6:=HST5.out.step hb6
    obtain ⟨va6,vc6,rfl⟩:=hcop.row.form
    have HLA:Hid _:=PaB.last (E':=E) (O':=O) hst6 hcop hU
    obtain ⟨r0,r1,r2,g0,g1,g2,rl⟩:=hst6.by'
    clear hb6 hst6 hcop p0 p1 p2
    go_wp2
    refine bodyPost_ret (v:=.tuple #[.agg #[.int .i64 E,.int .i64 O,.slice va6 ts.length vc6],.bool false]) (by simp [results,Tryz.results6,go_sem,r0,r1,r2]) rfl ?_
    exact ⟨⟨_,_,_,_,_,_,HP.out,rfl,HLA.out.1⟩,HLA.out.2⟩

set_option maxRecDepth 20000 in
set_option maxHeartbeats 4000000 in
theorem implPackAdd_any (f:List Int→Option (List Int)) (hf:DecF f) (E O:Int) (a:Option Addr) (cap:Nat) (es:List El) (xn:Int) (xa:Option Addr) (xc:Nat) (xl:List Int) (w:World) (hi:ItI w a es) (hx:FewJ es) (hq:Byt w xa xl) (hqc:xl.length≤xc) (hql:xl.length≤1048576) (hqr:rE true ⟨xn,xa,xc,xl⟩) (hS:SentB w) :
    Calls Tryz.prog 9 #[.agg #[.int .i64 E,.int .i64 O,.slice a es.length cap],.agg #[.int .i64 xn,.slice xa xl.length xc]] w (PaA f E O es ⟨xn,xa,xc,xl⟩ w):=by
  have hst:=PaB.start w E O a es.length cap ⟨xn,xa,xc,xl⟩ 32 36 32
  have HOK:=implPackOk_any f hf E O a cap es _ (hi.below hst.bel (Nat.le_refl _)) hx (hS.below hst.bel)
  have HB:Hid (ItI w a es∧FewJ es∧Byt w xa xl∧rE true ⟨xn,xa,xc,xl⟩∧DecF f∧SentB w):=⟨hi,hx,hq,hqr,hf,hS⟩
  clear hi hx hq hqr hf hS
  go_enter Tryz.func9,Tryz.ntmps9
  go_wp2_with fail
  generalize ((w.alloc (Obj.cells #[Value.int IntKind.i64 E,Value.int IntKind.i64 O,Value.slice a es.length cap] 32)).alloc (Obj.cells #[Value.int IntKind.i64 xn,Value.slice xa xl.length xc] 36)).alloc (Obj.cells #[Value.int IntKind.i64 0,Value.int IntKind.i64 0,Value.slice none 0 0] 32)=W0 at *
  refine HOK.mono ?_
  clear HOK
  rintro e w1 ⟨⟨hp,rfl⟩ | ⟨hp,rfl⟩,hb1⟩
  rotate_left 1
  · have hst1:=hst.step hb1
    have HLA:Hid _:=PaB.last (E':=0) (O':=0) (v:=.slice none 0 0) (ts:=[]) (fs:=[]) (U:=w.heap.size+1+1+1) hst1 ⟨rfl,OVt.nil _ _,Deep.nil _ _,by simp⟩ (Nat.le_refl _)
    have HP:Hid (PaP f E O es ⟨xn,xa,xc,xl⟩ 0 0 [] false):=.inl ⟨fun h=>hp h.1,rfl,rfl,rfl,rfl⟩
    obtain ⟨r0,r1,r2,g0,g1,g2,rl⟩:=hst1.by'
    clear hb1 hp hst hst1
    go_wp2
    refine bodyPost_ret (v:=.tuple #[.agg #[.int .i64 0,.int .i64 0,.slice none 0 0],.bool false]) (by simp [results,Tryz.results9,go_sem,r0,r1,r2]) rfl ?_
    exact ⟨⟨_,_,_,_,_,_,HP.out,rfl,HLA.out.1⟩,HLA.out.2⟩
  have hst1:=hst.step hb1
  have HIT:=itemRight_any f HB.out.2.2.2.2.1 xn xa xc xl w1 (HB.out.2.2.1.below hst1.bel (Nat.le_refl _)) hqc hql (HB.out.2.2.2.2.2.below hst1.bel)
  have HPK:Hid (PkR f E O es):=hp
  have hn16:=hp.n
  have hsz6:=hp.sz
  have HST1:Hid _:=hst1
  obtain ⟨q0,q1,-,-,ql⟩:=hst1.bq
  simp only at q0 q1
  clear hb1 hp hst hst1
  go_wp2_with fail
  refine HIT.mono ?_
  clear HIT
  rintro e w2 ⟨⟨hok,rfl⟩ | ⟨hok,rfl⟩,hb2⟩
  rotate_left 1
  · have hst1:=HST1.out.step hb2
    have HLA:Hid _:=PaB.last (E':=0) (O':=0) (v:=.slice none 0 0) (ts:=[]) (fs:=[]) (U:=w.heap.size+1+1+1) hst1 ⟨rfl,OVt.nil _ _,Deep.nil _ _,by simp⟩ (Nat.le_refl _)
    have HP:Hid (PaP f E O es ⟨xn,xa,xc,xl⟩ 0 0 [] false):=.inl ⟨fun h=>hok h.2,rfl,rfl,rfl,rfl⟩
    obtain ⟨r0,r1,r2,g0,g1,g2,rl⟩:=hst1.by'
    clear hb2 hok hst1 q0 q1
    go_wp2
    refine bodyPost_ret (v:=.tuple #[.agg #[.int .i64 0,.int .i64 0,.slice none 0 0],.bool false]) (by simp [results,Tryz.results9,go_sem,r0,r1,r2]) rfl ?_
    exact ⟨⟨_,_,_,_,_,_,HP.out,rfl,HLA.out.1⟩,HLA.out.2⟩
  have hst2:=HST1.out.step hb2
  have hxl:xl.length≤65:=by
    rcases hok.2 with h | h
    · simp only at h;rw [h];simp
    · obtain ⟨bs,hbs⟩:=Option.isSome_iff_exists.1 h
      exact ((HB.out.2.2.2.2.1 xl hql HB.out.2.2.1.1).1 bs hbs).2.2
  have HOK:Hid (itOk f ⟨xn,xa,xc,xl⟩):=hok
  have HAD:=with7_any E O a cap es xn xa xc xl w2 (HB.out.1.els.below hst2.bel (Nat.le_refl _)) (by omega)
  have HST2:Hid _:=hst2
  obtain ⟨p0,p1,p2,-,-,-,pl⟩:=hst2.bx
  obtain ⟨y0,y1,-,-,yl⟩:=hst2.bq
  simp only at y0 y1
  clear hb2 hok hst2 q0 q1 ql HST1
  go_wp2_with fail
  refine HAD.mono ?_
  clear HAD
  rintro e w3 ⟨⟨v,rfl,hov⟩,hb3⟩
  obtain ⟨va,vc,rfl⟩:=hov.form
  obtain ⟨gs,hgs⟩:∃ gs,gs=addL es ⟨xn,xa,xc,xl⟩:=⟨_,rfl⟩
  rw [← hgs] at hov ⊢
  have hst3:=HST2.out.step hb3
  have hba:Below w3.heap.size w3 (w3.alloc (Obj.cells #[Value.int IntKind.i64 E,Value.int IntKind.i64 O,Value.slice va gs.length vc] 32)):=(Below.refl _ _).alloc (Nat.le_refl _) _
  have hst4:=hst3.step hba
  have hm4:=Box3.new w3 (.int .i64 E) (.int .i64 O) (.slice va gs.length vc) 32
  have hgl:gs.length≤17:=by rw [hgs];have:=addL_len es ⟨xn,xa,xc,xl⟩;omega
  have hge:elets gs≤400:=by rw [hgs];have:=elets_add es ⟨xn,xa,xc,xl⟩;simp only at this;unfold szP at hsz6;omega
  have hel:elets es≤256:=by unfold szP at hsz6;omega
  have hEls:Els true (w3.alloc (Obj.cells #[Value.int IntKind.i64 E,Value.int IntKind.i64 O,Value.slice va gs.length vc] 32)) va gs:=by
    refine (hov.below hba).els (fun e he=>?_)
    rw [hgs] at he
    rcases addL_mem he with h | rfl
    · exact ⟨(HB.out.1.els.1 e h).1,(HB.out.1.els.1 e h).2.below hst4.bel (Nat.le_refl _)⟩
    · exact ⟨HB.out.2.2.2.1,HB.out.2.2.1.below hst4.bel (Nat.le_refl _)⟩
  have HGS:Hid (gs=addL es ⟨xn,xa,xc,xl⟩∧True):=⟨hgs,trivial⟩
  have HSZ:=packSizeI_any E O va vc gs _ hEls (by omega) (by omega)
  have HE4:Hid (Els true (w3.alloc (Obj.cells #[Value.int IntKind.i64 E,Value.int IntKind.i64 O,Value.slice va gs.length vc] 32)) va gs∧PaB w (w3.alloc (Obj.cells #[Value.int IntKind.i64 E,Value.int IntKind.i64 O,Value.slice va gs.length vc] 32)) E O a es.length cap ⟨xn,xa,xc,xl⟩∧Box3 (w3.alloc (Obj.cells #[Value.int IntKind.i64 E,Value.int IntKind.i64 O,Value.slice va gs.length vc] 32)) w3.heap.size (.int .i64 E) (.int .i64 O) (.slice va gs.length vc)∧w.heap.size+1+1+1≤w3.heap.size):=⟨hEls,hst4,hm4,hst3.by'.lt⟩
  obtain ⟨m0,m1,m2,-,-,-,ml⟩:=hm4
  clear hov hb3 hst3 hba hst4 hEls p0 p1 p2 pl y0 y1 yl HST2 hgs hsz6
  have hzb:szP gs≤1000:=by unfold szP;omega
  go_wp2_with fail
  generalize w3.alloc (Obj.cells #[Value.int IntKind.i64 E,Value.int IntKind.i64 O,Value.slice va gs.length vc] 32)=W4 at *
  refine HSZ.mono ?_
  clear HSZ
  rintro e w5 ⟨rfl,hb5⟩
  have hst5:=HE4.out.2.1.step hb5
  have hm5:=HE4.out.2.2.1.step hb5
  have hsm:∀ (l:List El) (B:Nat),elets l≤B→∀ s ∈ l,s.ls.length≤B:=fun l B h s hs=>by have:=elets_mem hs;omega
  have hU:w.heap.size+1+1+1≤w5.heap.size:=by have:=hst5.by'.lt;omega
  by_cases hz:szP gs≤256
  · have HP:Hid (PaP f E O es ⟨xn,xa,xc,xl⟩ E O gs true):=.inr (.inr ⟨⟨HPK.out,HOK.out⟩,by rw [← HGS.out.1];exact hz,rfl,rfl,HGS.out.1,rfl⟩)
    have HOW:=copied7_any E O va vc gs w5 (HE4.out.1.below hb5 (Nat.le_refl _)) (by omega) (hsm gs 1000000 (by omega))
    have HST5:Hid _:=hst5
    obtain ⟨m0,m1,m2,-,-,-,ml⟩:=hm5
    generalize szP gs=Z at *
    have hz2:¬ ((256:Int)<(Z:Int)):=by omega
    clear hb5 hst5 hz hsm
    go_wp2_with fail
    refine HOW.mono ?_
    clear HOW
    rintro e w6 ⟨⟨v6,ts,rfl,hcop⟩,hb6⟩
    have hst6:=HST5.out.step hb6
    obtain ⟨va6,vc6,rfl⟩:=hcop.row.form
    have HLA:Hid _:=PaB.last (E':=E) (O':=O) hst6 hcop hU
    obtain ⟨r0,r1,r2,g0,g1,g2,rl⟩:=hst6.by'
    clear hb6 hst6 hcop m0 m1 m2
    go_wp2
    refine bodyPost_ret (v:=.tuple #[.agg #[.int .i64 E,.int .i64 O,.slice va6 ts.length vc6],.bool true]) (by simp [results,Tryz.results9,go_sem,r0,r1,r2]) rfl ?_
    exact ⟨⟨_,_,_,_,_,_,HP.out,rfl,HLA.out.1⟩,HLA.out.2⟩
  · have HP:Hid (PaP f E O es ⟨xn,xa,xc,xl⟩ E O es false):=.inr (.inl ⟨⟨HPK.out,HOK.out⟩,by rw [← HGS.out.1];omega,rfl,rfl,rfl,rfl⟩)
    have HOW:=copied7_any E O a cap es w5 (HB.out.1.els.below hst5.bel (Nat.le_refl _)) (by omega) (hsm es 1000000 (by omega))
    have HST5:Hid _:=hst5
    obtain ⟨p0,p1,p2,-,-,-,pl⟩:=hst5.bx
    generalize szP gs=Z at *
    have hz2:(256:Int)<(Z:Int):=by omega
    clear hb5 hst5 hz hsm hm5
    go_wp2_with fail
    refine HOW.mono ?_
    clear HOW
    rintro e w6 ⟨⟨v6,ts,rfl,hcop⟩,hb6⟩
    have hst6:=HST5.out.step hb6
    obtain ⟨va6,vc6,rfl⟩:=hcop.row.form
    have HLA:Hid _:=PaB.last (E':=E) (O':=O) hst6 hcop hU
    obtain ⟨r0,r1,r2,g0,g1,g2,rl⟩:=hst6.by'
    clear hb6 hst6 hcop p0 p1 p2
    go_wp2
    refine bodyPost_ret (v:=.tuple #[.agg #[.int .i64 E,.int .i64 O,.slice va6 ts.length vc6],.bool false]) (by simp [results,Tryz.results9,go_sem,r0,r1,r2]) rfl ?_
    exact ⟨⟨_,_,_,_,_,_,HP.out,rfl,HLA.out.1⟩,HLA.out.2⟩
end Go.Proofs.YtiabhcfcpkkhoaaGreatDoor
