import Derived.Test.YtaibkchbkedjnaaGreatDoorDkI1
import Derived.Test.YtaibkchbkedjnaaGreatDoorBosW
set_option maxRecDepth 20000
set_option maxHeartbeats 16000000
namespace Go.Proofs.YtaibkchbkedjnaaGreatDoor
open Go.RowKit
set_option linter.unusedVariables false
set_option linter.unusedSimpArgs false
def wrB (ss ps:List El) (x:Int) (ds:List Int):Bool:=rok ss ps && decide (0<=x/\x<(ss.length:Int)/\ds.length=256/\ps.length<60)
def wrS (ss ps:List El) (x:Int) (ds:List Int):List (Int × List Int):=if wrB ss ps x ds=true then ss.map El.ct else []
def wrP (ss ps:List El) (x:Int) (ds:List Int):List (Int × List Int):=if wrB ss ps x ds=true then ps.map El.ct++[(x,ds)] else []
theorem Rok.lens {ss ps:List El} (h:Rok ss ps):(∀ s ∈ ss,s.ls.length=256)/\∀ s ∈ ps,s.ls.length=256:=by
 refine ⟨fun s hs=>?_,fun s hs=>?_⟩
 ·obtain ⟨i,hi,rfl⟩:=z1w hs
  exact h.2.2.2.1 i hi
 ·obtain ⟨i,hi,rfl⟩:=z1w hs
  exact (h.2.2.2.2 i hi).2.2
theorem z93 {ms ss:List El} (h:ms.map El.ct=ss.map El.ct) (hs:∀ e ∈ ss,e.ls.length=256):∀ e ∈ ms,e.ls.length=256:=by
 intro e he
 obtain ⟨i,hi,rfl⟩:=z1w he;have h1:=z0o h i;have h2:=hs _ (zf (k:=i) (by rw [<-zm h];exact hi))
 simp only [El.ct,Prod.mk.injEq] at h1
 rw [h1.2];exact h2
theorem Only.ofGrown {w w':World} {row:Option Nat} (hg:w.grownBy w' row):Only (fun k=>row=some k) w w':=(Only.refl (fun k=>row=some k) w).grown hg (fun k hk=>.inl hk)
theorem zc1 (p:Bool) (e:El):∀ u ∈ e.cells p,u.oneCell'=true:=by
 intro u hu
 cases p <;> simp [El.cells] at hu
 ·subst hu;rfl
 ·rcases hu with rfl | rfl <;> rfl
theorem ziw (w:World) (a:Option Addr) (L c:Nat) (T:TypeId) (e:El) (h1:e.a=a) (h2:e.ls.length=L) (h3:e.c=c):∀ j u,(e.cells false)[j]?=some u->(w.alloc (Obj.cells #[.slice a L c] T)).cell? ⟨w.heap.size,j,none⟩=some u:=by
 intro j u hu
 subst h1 h2 h3
 cases j with
 | zero=>simp [El.cells] at hu;simp [hu]
 | succ j=>simp [El.cells] at hu
theorem ziz (w:World) (n:Int) (a:Option Addr) (L c:Nat) (T:TypeId) (e:El) (h0:e.n=n) (h1:e.a=a) (h2:e.ls.length=L) (h3:e.c=c):∀ j u,(e.cells true)[j]?=some u->(w.alloc (Obj.cells #[.int .i64 n,.slice a L c] T)).cell? ⟨w.heap.size,j,none⟩=some u:=by
 intro j u hu
 subst h0 h1 h2 h3
 cases j with
 | zero=>simp [El.cells] at hu;simp [hu]
 | succ j=>
  cases j with
  | zero=>simp [El.cells] at hu;simp [hu]
  | succ j=>simp [El.cells] at hu
theorem zj0 (p:Bool):∃ i z b,Tryz.prog.info? (eT p)=some i/\i.zero=some z/\i.size=eW p/\i.bytes=b/\z.cells.size=eW p/\b<=32:=by
 cases p
 ·obtain ⟨i0,hi,hz0,hz1,hz2⟩:=info_parts Tryz.infoBs
  exact ⟨i0,_,24,hi,hz0,hz1,hz2,rfl,by omega⟩
 ·obtain ⟨i0,hi,hz0,hz1,hz2⟩:=info_parts Tryz.infoPend
  exact ⟨i0,_,32,hi,hz0,hz1,hz2,rfl,by omega⟩
def eS (p:Bool):TypeId:=cond p 39 22
theorem zkm (p:Bool):Tryz.prog.underlying (eS p)=some (.slice (eT p)):=by
 cases p
 ·exact Tryz.underlying22
 ·exact Tryz.underlying39
theorem z1n (p:Bool) {o:Oper} {a:Act} {w:World} {K:Act->World->Prop} {Q:Exit->Act->World->Prop} (s x:Operand) (ho:o.op=.call { callee:=.builtin .append,args:=#[s,x],argTypes:=#[eS p,eS p] })
  (B:Nat) (v:Value) (es:List El) (hs:a.eval s=v) (hown:OVr p w B v es) (X c:Nat) (e:El) (hx:a.eval x=.slice (some ⟨X,0,none⟩) 1 c) (hX:∀ j u,(e.cells p)[j]?=some u->w.cell? ⟨X,j,none⟩=some u) (hb1:es.length<=1000000) (hbase:B<=w.heap.size)
  (h:∀ v' w',OVr p w' B v' (es++[e])->w.grownBy w' v.ownBlock->K (a.put o.dst v') w'):o.wp Tryz.prog a w K Q:=by
 obtain ⟨i0,z0,b0,hi,hz0,hz1,hz2,hz3,hb0⟩:=zj0 p;obtain ⟨v',w',hr,h2,h3,_,_⟩:=run_append_own_at (P:=Tryz.prog) w B (eS p) o.type (eT p) i0 z0 (eW p) b0 (zkm p) hi hz0 hz1 hz2 hz3 (by cases p <;> simp [eW]) v es.length _ hown.own ⟨X,0,none⟩ 1 c (e.cells p) (by rw [z0m,Nat.one_mul]) (fun j u hu=>by rw [z68,Nat.zero_add];exact hX j u hu) (zc1 p e) (by unfold maxLen;omega) (Nat.le_trans (Nat.mul_le_mul (show es.length+1<=1000001 by omega) hb0) (by omega)) hbase
 unfold Oper.wp execOp
 simp only [ho,resolve,invoke,builtin,Sem.run_bind,Sem.run_pure,Result.andThen_ok,List.map_toArray,List.map_cons,List.map_nil,hs,hx,hr]
 refine h v' w' ⟨?_⟩ h3;rw [List.length_append,List.flatMap_append]
 simpa using h2
theorem z2d {p:Bool} {w0 wr w1:World} {B:Nat} {v:Value} {es:List El} (hbel:Below B w0 wr) (hB:B<=wr.heap.size) (h:OVr p wr B v es) (hg:wr.grownBy w1 v.ownBlock):Below B w0 w1:=
 hbel.grown hg hB (fun k hk=>(h.blk hk).1)
theorem Deep.grown {p:Bool} {w w':World} {B:Nat} {v:Value} {es fs:List El} (hd:Deep w B fs) (h:OVr p w B v es) (hg:w.grownBy w' v.ownBlock):Deep w' B fs:=
 hd.stay (Only.ofGrown hg) (fun x hx k hk e=>h.other (hd.mine x hx) e hk)
theorem OVr.empty (p:Bool) (w:World) (B:Nat) (hB:B<=w.heap.size):OVr p (w.alloc (Obj.cells #[] (eT p))) B (.slice (some ⟨w.heap.size,0,none⟩) 0 0) []:=
 ⟨⟨by simp,.inr ⟨w.heap.size,0,#[],rfl,hB,zby w _,Nat.le_refl _,by simp,by simp,by simp⟩⟩⟩
theorem za5 (p:Bool) {o:Oper} {a:Act} {w:World} {K:Act->World->Prop} {Q:Exit->Act->World->Prop} (s x:Operand) (ho:o.op=.call { callee:=.builtin .append,args:=#[s,x],argTypes:=#[eS p,eS p] })
  (B:Nat) (v:Value) (es fs:List El) (hs:a.eval s=v) (hown:OVr p w B v es) (xa:Addr) (c:Nat) (hx:a.eval x=.slice (some xa) fs.length c) (hX:Els p w (some xa) fs) (hb1:es.length+fs.length<=1000000) (hbase:B<=w.heap.size)
  (h:∀ v' w',OVr p w' B v' (es++fs)->w.grownBy w' v.ownBlock->K (a.put o.dst v') w'):o.wp Tryz.prog a w K Q:=by
 obtain ⟨i0,z0,b0,hi,hz0,hz1,hz2,hz3,hb0⟩:=zj0 p;have hp:0<eW p:=by cases p <;> simp [eW]
 have hnews:∀ j u,(fs.flatMap (El.cells p))[j]?=some u->w.cell? (xa.add j)=some u:=by
  intro j u hu
  have hj:j<fs.length*eW p:=by
   rcases Nat.lt_or_ge j (fs.length*eW p) with h | h
   ·exact h
   ·rw [List.getElem?_eq_none (by rw [z30];exact h)] at hu;cases hu
  have hi1:j / eW p<fs.length:=by rw [Nat.div_lt_iff_lt_mul hp];exact hj
  have hi2:j % eW p<eW p:=Nat.mod_lt _ hp;have hjj:j / eW p*eW p+j % eW p=j:=by rw [Nat.mul_comm];exact Nat.div_add_mod j (eW p)
  obtain ⟨b,off,e,hb,hc⟩:=hX.2 (Nat.lt_of_le_of_lt (Nat.zero_le _) hi1);obtain rfl:xa=⟨b,off,none⟩:=by simpa using e
  have hg:=z16 p fs (j / eW p) hi1 (j % eW p) hi2;rw [hjj,hu] at hg;have hl:=hc (j / eW p) hi1;rw [z68];generalize hq:j / eW p=q at *;generalize hr:j % eW p=r at *;subst hjj
  cases p
  ·obtain rfl:r=0:=by simp [eW] at hi2;omega
   have h1:=hl.c1
   simp [eW,eO,El.cells] at h1 hg ⊢
   rw [h1,hg]
  ·have h0:=hl.c0 rfl
   have h1:=hl.c1;have h2:r=0\/r=1:=by simp [eW] at hi2;omega
   rcases h2 with rfl | rfl
   ·simp [eW,El.cells] at h0 hg ⊢
    rw [h0,hg]
   ·simp [eW,eO,El.cells] at h1 hg ⊢
    rw [<-Nat.add_assoc,h1,hg]
 have hone:∀ u ∈ fs.flatMap (El.cells p),u.oneCell'=true:=by
  intro u hu
  obtain ⟨e,_,he⟩:=List.mem_flatMap.1 hu;exact zc1 p e u he
 obtain ⟨v',w',hr,h2,h3,_,_⟩:=run_append_own_at (P:=Tryz.prog) w B (eS p) o.type (eT p) i0 z0 (eW p) b0 (zkm p) hi hz0 hz1 hz2 hz3 hp v es.length _ hown.own xa fs.length c (fs.flatMap (El.cells p)) (z30 p fs) hnews hone (by unfold maxLen;omega) (Nat.le_trans (Nat.mul_le_mul hb1 hb0) (by omega)) hbase
 unfold Oper.wp execOp
 simp only [ho,resolve,invoke,builtin,Sem.run_bind,Sem.run_pure,Result.andThen_ok,List.map_toArray,List.map_cons,List.map_nil,hs,hx,hr]
 refine h v' w' ⟨?_⟩ h3;rw [List.length_append,List.flatMap_append];exact h2
theorem z2b (p:Bool) {ops:Array Oper} {rest:List Oper} {o:Oper} {a:Act} {Q:Exit->Act->World->Prop} {w:World} (hgd:o.guard=none) (s x:Operand) (ho:o.op=.call { callee:=.builtin .append,args:=#[s,x],argTypes:=#[eS p,eS p] })
  (B:Nat) (v:Value) (es fs:List El) (hs:a.eval s=v) (hown:OVr p w B v es) (xa:Addr) (c:Nat) (hx:a.eval x=.slice (some xa) fs.length c) (hX:Els p w (some xa) fs) (hb1:es.length+fs.length<=1000000) (hbase:B<=w.heap.size)
  (h:∀ v' w',OVr p w' B v' (es++fs)->w.grownBy w' v.ownBlock->wpList Tryz.prog ops Q rest (a.put o.dst v') w'):wpList Tryz.prog ops Q (o :: rest) a w:=
 wpList_plain hgd fun _ hK=>za5 p s x ho B v es fs hs hown xa c hx hX hb1 hbase fun v' w' h1 h2=>hK _ _ (h v' w' h1 h2)
theorem zb4 {p:Bool} {w:World} {es:List El} (h:Els p w none es):es=[]:=by
 rcases Nat.eq_zero_or_pos es.length with h0 | h0
 ·exact List.eq_nil_of_length_eq_zero h0
 ·obtain ⟨b,off,e,_⟩:=h.2 h0
  cases e
theorem z9d (a:Option Addr) (cap:Nat) (es:List El) (w:World) (hb:Els true w a es) (hn:es.length<=1000000) :
  Calls Tryz.prog 194 #[.slice a es.length cap] w fun e w'=>(∃ v,e=.returned v/\OVr true w' w.heap.size v es)/\Below w.heap.size w w':=by
 cases a with
 | none=>
  have hz:=zb4 hb;subst hz;have heq:(binOp .eql 39 (.slice none 0 cap) (.slice none 0 0)).run Tryz.prog w=.ok (.bool true) w:=Lib.run_eql_slice_nil w _ _ none 0 cap 0 0 Tryz.underlying39
  go_enter Tryz.func194,Tryz.ntmps194
  go_wp2
  go_ret;exact ⟨⟨_,rfl,OVr.nil _ _ _⟩,Below.refl _ _⟩
 | some ad=>
  have HO:Hid (OVr true (w.alloc (Obj.cells #[] 141)) w.heap.size (.slice (some ⟨w.heap.size,0,none⟩) 0 0) []):=OVr.empty true w _ nl;have HB:Hid (Below w.heap.size w (w.alloc (Obj.cells #[] 141))):=ba;have HY:Hid (Els true (w.alloc (Obj.cells #[] 141)) (some ad) es):=hb.below HB.out nl;clear hb;have heq:(binOp .eql 39 (.slice (some ad) es.length cap) (.slice none 0 0)).run Tryz.prog w=.ok (.bool false) w:=Lib.run_eql_slice_nil w _ _ (some ad) es.length cap 0 0 Tryz.underlying39
  go_enter Tryz.func194,Tryz.ntmps194
  go_wp2_with (at_builtin;(refine z2b true rfl (.tmp 5) (.tmp 6) rfl w.heap.size (.slice (some ⟨w.heap.size,0,none⟩) 0 0) [] es rfl HO.out ad cap rfl HY.out (by simp;omega) (by simp) ?_;intro v1 w1 hov1 hgr1;have HB1:Hid (Below w.heap.size w w1):=z2d HB.out (by simp) HO.out hgr1;have HV1:Hid (OVr true w1 w.heap.size v1 es):=(by rw [List.nil_append] at hov1;exact hov1);clear hov1 hgr1))
  go_ret;exact ⟨⟨_,rfl,HV1.out⟩,HB1.out⟩
structure CopR (w W:World) (X:Nat) (v u:Value) (es fs:List El):Prop where
 bel:Below w.heap.size w W
 hX:w.heap.size<=X
 rs:OVr false W (X+1) v es
 rp:OVr true W (X+1) u fs
 deep:Deep W (X+1) (es++fs)
 box:Box2 W X v u
section
variable {w W W' w2 w3 : World} {X : Nat} {v u v' : Value} {es fs : List El} {e : El} {ob : Obj}
theorem CopR.step (h:CopR w W X v u es fs) (hb:Below W.heap.size W W'):CopR w W' X v u es fs:=
 ⟨h.bel.trans (hb.mono h.bel.size),h.hX,h.rs.below hb,h.rp.below hb,h.deep.below hb,h.box.keep hb h.box.lt⟩
theorem z2i (h:CopR w W X v u es fs) (hb:Below W.heap.size W w2) (hm:Mine w2 W.heap.size w2.heap.size e.a e.c e.ls):Below W.heap.size W (w2.alloc ob)/\X+1<=(w2.alloc ob).heap.size/\Deep (w2.alloc ob) (X+1) ((es++fs)++[e]):=by
 have hba:Below w2.heap.size w2 (w2.alloc ob):=ba;have hlt:=h.box.lt;have hs2:=hb.size;refine ⟨hb.trans (hba.mono hs2),by simp;omega,?_⟩
 exact ((h.deep.below hb).snoc (U:=W.heap.size) hm (fun x hx k hk=>h.deep.lt x hx k hk) (by omega)).below hba
theorem CopR.moreS (h:CopR w W X v u es []) (hb:Below W.heap.size W w2) (hm:Mine w2 W.heap.size w2.heap.size e.a e.c e.ls) (hov:OVr false w3 (X+1) v' (es++[e])) (hg:(w2.alloc ob).grownBy w3 v.ownBlock) :
  CopR w (w3.setCell ⟨X,0,none⟩ v') X v' u (es++[e]) []/\Below (X+1) W w3:=by
 obtain ⟨hb2,hx2,hd2⟩:=z2i (ob:=ob) h hb hm;have hx:=h.hX;have hlt:=h.box.lt;have hr2:=h.rs.below hb2;have hbw:Below (X+1) W w3:=z2d (hb2.mono (by omega)) hx2 hr2 hg
 rw [List.append_nil] at hd2;have hd3:=hd2.grown hr2 hg;have hon:Only (fun b=>b=X) w3 (w3.setCell ⟨X,0,none⟩ v'):=(Only.refl (fun b=>b=X) w3).setCell (p:=⟨X,0,none⟩) (.inl rfl) _
 have hp3:OVr true w3 (X+1) u []:=(h.rp.below hb2).stay (Only.ofGrown hg) (fun k hk e=>hr2.two (h.rp.below hb2) e hk)
 refine ⟨⟨(h.bel.trans (hbw.mono (by omega))).setCell (p:=⟨X,0,none⟩) hx _,hx,?_,?_,?_,(h.box.keep hbw (by omega)).set0 _⟩,hbw⟩
 ·exact hov.stay hon (fun b hb e=>by have:=(hov.blk hb).1;omega)
 ·exact hp3.stay hon (fun b hb e=>by have:=(hp3.blk hb).1;omega)
 ·rw [List.append_nil]
  exact hd3.stay hon (fun x hx b hb e=>by have:=((hd3.mine x hx).rowE hb).1;omega)
theorem CopR.moreP (h:CopR w W X v u es fs) (hb:Below W.heap.size W w2) (hm:Mine w2 W.heap.size w2.heap.size e.a e.c e.ls) (hov:OVr true w3 (X+1) v' (fs++[e])) (hg:(w2.alloc ob).grownBy w3 u.ownBlock) :
  CopR w (w3.setCell ⟨X,1,none⟩ v') X v v' es (fs++[e])/\Below (X+1) W w3:=by
 obtain ⟨hb2,hx2,hd2⟩:=z2i (ob:=ob) h hb hm;have hx:=h.hX;have hlt:=h.box.lt;have hr2:=h.rp.below hb2;have hbw:Below (X+1) W w3:=z2d (hb2.mono (by omega)) hx2 hr2 hg
 rw [List.append_assoc] at hd2;have hd3:=hd2.grown hr2 hg;have hon:Only (fun b=>b=X) w3 (w3.setCell ⟨X,1,none⟩ v'):=(Only.refl (fun b=>b=X) w3).setCell (p:=⟨X,1,none⟩) (.inl rfl) _
 have hp3:OVr false w3 (X+1) v es:=(h.rs.below hb2).stay (Only.ofGrown hg) (fun k hk e=>(h.rs.below hb2).two hr2 hk e)
 refine ⟨⟨(h.bel.trans (hbw.mono (by omega))).setCell (p:=⟨X,1,none⟩) hx _,hx,?_,?_,?_,(h.box.keep hbw (by omega)).set1 _⟩,hbw⟩
 ·exact hp3.stay hon (fun b hb e=>by have:=(hp3.blk hb).1;omega)
 ·exact hov.stay hon (fun b hb e=>by have:=(hov.blk hb).1;omega)
 ·exact hd3.stay hon (fun x hx b hb e=>by have:=((hd3.mine x hx).rowE hb).1;omega)
theorem CopR.raw (h:CopR w W X v u es fs) (hr:(∀ e ∈ es,rE false e)/\∀ e ∈ fs,rE true e):RawO W (X+1) v u es fs:=⟨h.rs,h.rp,h.deep,hr⟩
end
theorem z71 {p:Bool} {ss ts:List El} (h:ts.map El.ct=ss.map El.ct) (hr:∀ e ∈ ss,rE p e):∀ e ∈ ts,rE p e:=by
 intro e he
 obtain ⟨i,hi,rfl⟩:=z1w he;have h1:=z0o h i;have h2:=hr _ (zf (k:=i) (by rw [<-zm h];exact hi))
 simp only [El.ct,Prod.mk.injEq] at h1
 exact ⟨by rw [h1.1];exact h2.lo,by rw [h1.1];exact h2.hi,by rw [h1.2];exact h2.len,fun hp=>by rw [h1.1];exact h2.zero hp⟩
theorem Els.rng {p:Bool} {w:World} {a:Option Addr} {es:List El} (h:Els p w a es):∀ e ∈ es,rE p e:=fun e he=>(h.1 e he).1
theorem z92 (sa pa:Option Addr) (sc pc:Nat) (ss ps:List El) (w:World) (hb:RawI w sa pa ss ps) (hn:ss.length<=1000) (hm:ps.length<=1000) (hl:∀ s ∈ ss,s.ls.length<=1000000) (hp:∀ s ∈ ps,s.ls.length<=1000000) :
  Calls Tryz.prog 145 #[.agg #[.slice sa ss.length sc,.slice pa ps.length pc]] w fun e w'=>
   (∃ v u ts qs,e=.returned (.agg #[v,u])/\(ts.map El.ct=ss.map El.ct/\qs.map El.ct=ps.map El.ct)/\RawO w' w.heap.size v u ts qs)/\Below w.heap.size w w':=by
 have HB:Hid (RawI w sa pa ss ps):=hb;have HL:Hid ((∀ s ∈ ss,s.ls.length<=1000000)/\(∀ s ∈ ps,s.ls.length<=1000000)):=⟨hl,hp⟩;clear hb hl hp;generalize hlen:ss.length=n at *;generalize hlen2:ps.length=m at *;have HLN:Hid (ss.length=n/\ps.length=m):=⟨hlen,hlen2⟩;clear hlen hlen2
 go_enter Tryz.func145,Tryz.ntmps145
 have HR0:Hid (Box2 (((w.alloc (Obj.cells #[.slice sa n sc,.slice pa m pc] 41)).alloc (Obj.cells #[.slice none 0 0,.slice none 0 0] 41)).alloc (Obj.cells #[.slice none 0 0,.slice none 0 0] 41)) w.heap.size (.slice sa n sc) (.slice pa m pc)/\Box2 (((w.alloc (Obj.cells #[.slice sa n sc,.slice pa m pc] 41)).alloc (Obj.cells #[.slice none 0 0,.slice none 0 0] 41)).alloc (Obj.cells #[.slice none 0 0,.slice none 0 0] 41)) (w.heap.size+1) (.slice none 0 0) (.slice none 0 0)/\CopR w (((w.alloc (Obj.cells #[.slice sa n sc,.slice pa m pc] 41)).alloc (Obj.cells #[.slice none 0 0,.slice none 0 0] 41)).alloc (Obj.cells #[.slice none 0 0,.slice none 0 0] 41)) (w.heap.size+1+1) (.slice none 0 0) (.slice none 0 0) [] []):=by
  refine ⟨((Box2.new _ _ _ _).alloc _).alloc _,?_,⟨(((Below.refl _ _).alloc nl _).alloc (by simp) _).alloc (by simp;omega) _,by omega,OVr.nil _ _ _,OVr.nil _ _ _,Deep.nil _ _,?_⟩⟩
  ·have h9:=(Box2.new (w.alloc (Obj.cells #[.slice sa n sc,.slice pa m pc] 41)) (.slice none 0 0) (.slice none 0 0) 41).alloc (Obj.cells #[.slice none 0 0,.slice none 0 0] 41)
   simpa using h9
  ·have h9:=Box2.new ((w.alloc (Obj.cells #[.slice sa n sc,.slice pa m pc] 41)).alloc (Obj.cells #[.slice none 0 0,.slice none 0 0] 41)) (.slice none 0 0) (.slice none 0 0) 41
   simpa using h9
 go_wp2
 go_loopw [4] (fun i wr=>∃ (k:Nat) (v:Value) (es:List El),k<=n/\i=.int .i64 k/\es.map El.ct=(ss.take k).map El.ct/\Box2 wr w.heap.size (.slice sa n sc) (.slice pa m pc)/\Box2 wr (w.heap.size+1) (.slice none 0 0) (.slice none 0 0)/\CopR w wr (w.heap.size+1+1) v (.slice none 0 0) es []) (fun i _=>n-(intOf i).toNat)
 case atStart=>exact ⟨0,_,[],Nat.zero_le _,rfl,by simp,HR0.out.1,HR0.out.2.1,HR0.out.2.2⟩
 case round=>
  clear HR0;obtain ⟨k,v,es,hk,rfl,hct,hb0,hb1,hcop⟩:=hrel;have hes:es.length=k:=by
   have:=congrArg List.length hct
   simp only [List.length_map,List.length_take,HLN.out.1] at this
   omega
  have HST:Hid (es.map El.ct=(ss.take k).map El.ct/\es.length=k):=⟨hct,hes⟩;have HBX:Hid (Box2 wr w.heap.size (.slice sa n sc) (.slice pa m pc)/\Box2 wr (w.heap.size+1) (.slice none 0 0) (.slice none 0 0)):=⟨hb0,hb1⟩;have HCO:Hid (CopR w wr (w.heap.size+1+1) v (.slice none 0 0) es []):=hcop;clear hct hes hb0 hb1
  by_cases hlt:k<n
  ·obtain ⟨va,vc,rfl⟩:=hcop.rs.form
   obtain ⟨c0,c1,f0,f1,hl⟩:=hcop.box;obtain ⟨b,off,rfl,hbl,d0,hby,hrg⟩:=(HB.out.1.below hcop.bel nl).sec k (by rw [HLN.out.1];exact hlt)
   have hll:=HL.out.1 _ (zf (k:=k) (by rw [HLN.out.1];exact hlt))
   have HCS:Hid ((ss.take (k+1)).map El.ct=(ss.take k).map El.ct++[(ss.getD k de).ct]/\True):=⟨z0d ss k (by rw [HLN.out.1];exact hlt),trivial⟩
   have HEN:Hid ((ss.getD k de).n=0):=hrg.zero rfl;clear hcop hrg;generalize ss.getD k de=s at *;obtain ⟨sn,a2,c2,sl⟩:=s
   simp only at d0 hby hll HEN
   have HBY:Hid (Byt wr a2 sl):=hby;clear hby;have hk1:es.length<=1000:=by have:=HST.out.2;omega
   have hbw:b<w.heap.size:=by
    obtain ⟨b',o',e',h',_⟩:=HB.out.1.sec k (by rw [HLN.out.1];exact hlt)
    simp at e'
    omega
   obtain ⟨x0,x1,-,-,xl⟩:=HBX.out.1;go_wp2;have HE1:Hid (OVB (wr.drew.alloc (Obj.cells #[] 5)) wr.heap.size (.slice (some ⟨wr.heap.size,0,none⟩) 0 0) []/\Byt (wr.drew.alloc (Obj.cells #[] 5)) a2 sl/\Below wr.heap.size wr (wr.drew.alloc (Obj.cells #[] 5))):=⟨OVB.empty wr.drew _ nl,(HBY.out.drewN 1).alloc _,Below.drewS ((Below.refl wr.heap.size wr.drew).alloc nl _)⟩;refine zh (S:=fun W=>W.cell? ⟨w.heap.size+1+1,0,none⟩=some (.slice va es.length vc)/\W.cell? ⟨w.heap.size,0,none⟩=some (.slice (some ⟨b,off,none⟩) n sc)/\W.cell? ⟨b,off+k,none⟩=some (.slice a2 sl.length c2)) 11 (by kernel_rfl) (by kernel_rfl) (by exact ⟨c0,x0,d0⟩) (fun hHeld=>?_)
   refine tk 0 ?_
   try simp only [tkS]
   refine tk 1 ?_
   try simp only [tkS]
   refine tk 3 ?_
   try simp only [tkS]
   refine tk 4 ?_
   try simp only [tkS]
   refine tk 5 ?_
   try simp only [tkS]
   refine tk 6 ?_
   try simp only [tkS]
   refine tk 7 ?_
   try simp only [tkS]
   refine wpAnyH_ready (rs:=[2]) (by kernel_rfl) (by simp) ?_
   refine AllReadyH.cons rfl (fun K hK=>?_) AllReadyH.nil
   go_simp
   refine hK.out _ _ (by exact ⟨ze _ hl c0,ze _ (by omega) x0,ze _ hbl d0⟩) (fun hHeld=>?_)
   clear hK K
   try simp only [tkS]
   refine wpAnyH_ready (rs:=[8]) (by kernel_rfl) (by simp) ?_
   refine AllReadyH.cons rfl (fun K hK=>?_) AllReadyH.nil
   refine z0v rfl (z3z (.tmp 15) (.tmp 20) rfl wr.heap.size (.slice (some ⟨wr.heap.size,0,none⟩) 0 0) [] (by simp [Act.eval]) (HE1.out.1) a2 c2 sl (by simp [Act.eval]) (HE1.out.2.1) (by simp;omega) (by simp) ?_)
   intro v2 w2 hov2 hg2
   have hb2:Below wr.heap.size wr w2:=z06 HE1.out.2.2 (by simp) HE1.out.1 hg2
   rw [List.nil_append] at hov2;obtain ⟨ua,uc,rfl,hm2⟩:=hov2.mine;have HM2:Hid (Mine w2 wr.heap.size w2.heap.size ua uc sl/\Below wr.heap.size wr w2):=⟨hm2,hb2⟩;have k0:=keep hb2 hl c0;have k1:=keep hb2 (by omega) x0
   have k2:=keep hb2 hbl d0;have hl2:w.heap.size+1+1<w2.heap.size:=by have:=hb2.size;omega
   have hbl2:b<w2.heap.size:=by have:=hb2.size;omega
   clear hm2 hb2 hov2 hg2;refine hK.out _ _ (by exact ⟨k0,k1,k2⟩) (fun hHeld=>?_)
   clear hK K
   try simp only [tkS]
   refine wpAnyH_ready (rs:=[9]) (by kernel_rfl) (by simp) ?_
   refine AllReadyH.cons rfl (fun K hK=>?_) AllReadyH.nil
   go_simp
   refine hK.out _ _ (by exact ⟨ze _ hl2 k0,ze _ (by omega) k1,ze _ hbl2 k2⟩) (fun hHeld=>?_)
   clear hK K
   try simp only [tkS]
   refine wpAnyH_ready (rs:=[10]) (by kernel_rfl) (by simp) ?_
   refine AllReadyH.cons rfl (fun K hK=>?_) AllReadyH.nil
   refine z0v rfl (z1n false (.tmp 14) (.tmp 22) rfl (w.heap.size+1+1+1) (.slice va es.length vc) es (by simp [Act.eval]) (HCO.out.rs.below (z2i (e:=⟨sn,ua,uc,sl⟩) HCO.out HM2.out.2 HM2.out.1).1) w2.heap.size 1 ⟨sn,ua,uc,sl⟩ (by simp [Act.eval]) (ziw w2 _ sl.length uc 36 _ rfl rfl rfl) (by omega) (by simp;omega) ?_)
   intro v3 w3 hov3 hg3
   obtain ⟨sa3,sc3,hv3⟩:=hov3.form;rw [List.length_append,List.length_singleton] at hv3;subst hv3;have HM:Hid _:=HCO.out.moreS (e:=⟨sn,ua,uc,sl⟩) HM2.out.2 HM2.out.1 hov3 hg3;have c3:=keep HM.out.2 (by omega) c0
   have x3:=keep HM.out.2 (by omega) x0
   have hne:¬(Value.slice va es.length vc).ownBlock=some b:=fun he=>by have:=(HCO.out.rs.blk he).1;omega
   have d3:=(Only.ofGrown hg3).cell (b:=b) (o:=off+k) (by simp;omega) hne (ze _ hbl2 k2)
   have g3:=(HM.out.2.frozen (p:=⟨w.heap.size+1+1,0,none⟩) (by simp)).trans f0
   have hl3:w.heap.size+1+1<w3.heap.size:=by have:=HM.out.2.size;omega
   clear hov3 hg3;refine hK.out _ _ (by exact ⟨c3,x3,d3⟩) (fun hHeld=>?_)
   clear hK K
   try simp only [tkS]
   refine wpAnyH_done (by kernel_rfl) ?_ _
   simp only [z0i,List.drop_succ_cons,List.drop_zero]
   have HMC:Hid (CopR w (w3.setCell ⟨w.heap.size+1+1,0,none⟩ (.slice sa3 (es.length+1) sc3)) (w.heap.size+1+1) (.slice sa3 (es.length+1) sc3) (.slice none 0 0) (es++[⟨sn,ua,uc,sl⟩]) []):=HM.out.1;have HB2:Hid (Box2 (w3.setCell ⟨w.heap.size+1+1,0,none⟩ (.slice sa3 (es.length+1) sc3)) w.heap.size (.slice (some ⟨b,off,none⟩) n sc) (.slice pa m pc)/\Box2 (w3.setCell ⟨w.heap.size+1+1,0,none⟩ (.slice sa3 (es.length+1) sc3)) (w.heap.size+1) (.slice none 0 0) (.slice none 0 0)):=⟨(HBX.out.1.keep HM.out.2 (by omega)).other (by simp;omega) _,(HBX.out.2.keep HM.out.2 (by omega)).other (by simp) _⟩
   have HCT2:Hid ((es++[(⟨sn,ua,uc,sl⟩:El)]).map El.ct=(ss.take (k+1)).map El.ct/\True):=⟨by rw [List.map_append,HST.out.1,HCS.out.1];rfl,trivial⟩
   clear HM HM2 c0 c1 f0 f1 d0 HCO HBX HCS HST x0 x1 k0 k1 k2 x3 d3 HE1;go_wp2;go_roundw
   case rel=>exact ⟨k+1,_,_,by omega,by go_num,HCT2.out.1,HB2.out.1,HB2.out.2,HMC.out⟩
   case measure=>simp [intOf];omega
  ·have hkn:k=n:=by omega
   subst hkn;obtain ⟨x0,x1,-,-,xl⟩:=HBX.out.1;have HES:Hid (es.map El.ct=ss.map El.ct/\True):=⟨by rw [HST.out.1,List.take_of_length_le (by rw [HLN.out.1];exact Nat.le_refl _)],trivial⟩
   clear hcop HST;go_wp2
   go_loopw [5] (fun i wr2=>∃ (j:Nat) (u:Value) (fs:List El),j<=m/\i=.int .i64 j/\fs.map El.ct=(ps.take j).map El.ct/\(Box2 wr2 w.heap.size (.slice sa k sc) (.slice pa m pc)/\Box2 wr2 (w.heap.size+1) (.slice none 0 0) (.slice none 0 0))/\CopR w wr2 (w.heap.size+1+1) v u es fs) (fun i _=>m-(intOf i).toNat)
   case atStart=>exact ⟨0,_,[],Nat.zero_le _,rfl,by simp,HBX.out,HCO.out⟩
   case round=>
    clear HBX HCO x0 x1 xl;obtain ⟨j,u,fs,hj,rfl,hct,hb1,hcop⟩:=hrel;generalize wr=wr2 at *;have hfs:fs.length=j:=by
     have:=congrArg List.length hct
     simp only [List.length_map,List.length_take,HLN.out.2] at this
     omega
    have HST:Hid (fs.map El.ct=(ps.take j).map El.ct/\fs.length=j):=⟨hct,hfs⟩;have HBX:Hid (Box2 wr2 w.heap.size (.slice sa k sc) (.slice pa m pc)/\Box2 wr2 (w.heap.size+1) (.slice none 0 0) (.slice none 0 0)):=hb1;have HC0:Hid (CopR w wr2 (w.heap.size+1+1) v u es fs):=hcop;clear hct hfs hb1
    by_cases hlt:j<m
    ·obtain ⟨fa,fc,rfl⟩:=hcop.rp.form
     obtain ⟨c0,c1,f0,f1,hl⟩:=hcop.box;obtain ⟨b,off,rfl,hbl,d0,d1,hby,hrg⟩:=(HB.out.2.below hcop.bel nl).pen j (by rw [HLN.out.2];exact hlt)
     have hll:=HL.out.2 _ (zf (k:=j) (by rw [HLN.out.2];exact hlt))
     have HCS:Hid ((ps.take (j+1)).map El.ct=(ps.take j).map El.ct++[(ps.getD j de).ct]/\True):=⟨z0d ps j (by rw [HLN.out.2];exact hlt),trivial⟩
     clear hcop hrg;generalize ps.getD j de=s at *;obtain ⟨sn,a2,c2,sl⟩:=s
     simp only at d0 d1 hby hll
     have HBY:Hid (Byt wr2 a2 sl):=hby;clear hby;have hk1:fs.length<=1000:=by have:=HST.out.2;omega
     have hbw:b<w.heap.size:=by
      obtain ⟨b',o',e',h',_⟩:=HB.out.2.pen j (by rw [HLN.out.2];exact hlt)
      simp at e'
      omega
     obtain ⟨x0,x1,-,-,xl⟩:=HBX.out.1;have HE1:Hid (OVB (wr2.drew.alloc (Obj.cells #[] 5)) wr2.heap.size (.slice (some ⟨wr2.heap.size,0,none⟩) 0 0) []/\Byt (wr2.drew.alloc (Obj.cells #[] 5)) a2 sl/\Below wr2.heap.size wr2 (wr2.drew.alloc (Obj.cells #[] 5))):=⟨OVB.empty wr2.drew _ nl,(HBY.out.drewN 1).alloc _,Below.drewS ((Below.refl wr2.heap.size wr2.drew).alloc nl _)⟩;go_wp2;refine zh (S:=fun W=>W.cell? ⟨w.heap.size+1+1,1,none⟩=some (.slice fa fs.length fc)/\W.cell? ⟨w.heap.size,1,none⟩=some (.slice (some ⟨b,off,none⟩) m pc)/\W.cell? ⟨b,off+j*2,none⟩=some (.int .i64 sn)/\W.cell? ⟨b,off+j*2+1,none⟩=some (.slice a2 sl.length c2)) 19 (by kernel_rfl) (by kernel_rfl) (by exact ⟨c1,x1,d0,d1⟩) (fun hHeld=>?_)
     refine tk 0 ?_
     try simp only [tkS]
     refine tk 1 ?_
     try simp only [tkS]
     refine tk 2 ?_
     try simp only [tkS]
     refine tk 3 ?_
     try simp only [tkS]
     refine tk 4 ?_
     try simp only [tkS]
     refine tk 5 ?_
     try simp only [tkS]
     refine tk 6 ?_
     try simp only [tkS]
     refine tk 7 ?_
     try simp only [tkS]
     refine tk 9 ?_
     try simp only [tkS]
     refine tk 10 ?_
     try simp only [tkS]
     refine tk 11 ?_
     try simp only [tkS]
     refine tk 12 ?_
     try simp only [tkS]
     refine tk 13 ?_
     try simp only [tkS]
     refine tk 14 ?_
     try simp only [tkS]
     refine wpAnyH_ready (rs:=[8]) (by kernel_rfl) (by simp) ?_
     refine AllReadyH.cons rfl (fun K hK=>?_) AllReadyH.nil
     go_simp
     refine hK.out _ _ (by exact ⟨ze _ hl c1,ze _ (by omega) x1,ze _ hbl d0,ze _ hbl d1⟩) (fun hHeld=>?_)
     clear hK K
     try simp only [tkS]
     refine wpAnyH_ready (rs:=[15]) (by kernel_rfl) (by simp) ?_
     refine AllReadyH.cons rfl (fun K hK=>?_) AllReadyH.nil
     refine z0v rfl (z3z (.tmp 40) (.tmp 46) rfl wr2.heap.size (.slice (some ⟨wr2.heap.size,0,none⟩) 0 0) [] (by simp [Act.eval]) (HE1.out.1) a2 c2 sl (by simp [Act.eval]) (HE1.out.2.1) (by simp;omega) (by simp) ?_)
     intro v2 w2 hov2 hg2
     have hb2:Below wr2.heap.size wr2 w2:=z06 HE1.out.2.2 (by simp) HE1.out.1 hg2
     rw [List.nil_append] at hov2;obtain ⟨ua,uc,rfl,hm2⟩:=hov2.mine;have HM2:Hid (Mine w2 wr2.heap.size w2.heap.size ua uc sl/\Below wr2.heap.size wr2 w2):=⟨hm2,hb2⟩;have k0:=keep hb2 hl c1;have k1:=keep hb2 (by omega) x1
     have k2:=keep hb2 hbl d0;have k3:=keep hb2 hbl d1;have hl2:w.heap.size+1+1<w2.heap.size:=by have:=hb2.size;omega
     have hbl2:b<w2.heap.size:=by have:=hb2.size;omega
     clear hm2 hb2 hov2 hg2;refine hK.out _ _ (by exact ⟨k0,k1,k2,k3⟩) (fun hHeld=>?_)
     clear hK K
     try simp only [tkS]
     refine tk 16 ?_
     try simp only [tkS]
     refine wpAnyH_ready (rs:=[17]) (by kernel_rfl) (by simp) ?_
     refine AllReadyH.cons rfl (fun K hK=>?_) AllReadyH.nil
     go_simp
     refine hK.out _ _ (by exact ⟨ze _ hl2 k0,ze _ (by omega) k1,ze _ hbl2 k2,ze _ hbl2 k3⟩) (fun hHeld=>?_)
     clear hK K
     try simp only [tkS]
     refine wpAnyH_ready (rs:=[18]) (by kernel_rfl) (by simp) ?_
     refine AllReadyH.cons rfl (fun K hK=>?_) AllReadyH.nil
     refine z0v rfl (z1n true (.tmp 33) (.tmp 49) rfl (w.heap.size+1+1+1) (.slice fa fs.length fc) fs (by simp [Act.eval]) (HC0.out.rp.below (z2i (e:=⟨sn,ua,uc,sl⟩) HC0.out HM2.out.2 HM2.out.1).1) w2.heap.size 1 ⟨sn,ua,uc,sl⟩ (by simp [Act.eval]) (ziz w2 sn _ sl.length uc 141 _ rfl rfl rfl rfl) (by omega) (by simp;omega) ?_)
     intro v3 w3 hov3 hg3
     obtain ⟨sa3,sc3,hv3⟩:=hov3.form;rw [List.length_append,List.length_singleton] at hv3;subst hv3;have HM:Hid _:=HC0.out.moreP (e:=⟨sn,ua,uc,sl⟩) HM2.out.2 HM2.out.1 hov3 hg3;have c3:=keep HM.out.2 (by omega) c1
     have x3:=keep HM.out.2 (by omega) x1
     have hne:¬(Value.slice fa fs.length fc).ownBlock=some b:=fun he=>by have:=(HC0.out.rp.blk he).1;omega
     have d3:=(Only.ofGrown hg3).cell (b:=b) (o:=off+j*2) (by simp;omega) hne (ze _ hbl2 k2)
     have d4:=(Only.ofGrown hg3).cell (b:=b) (o:=off+j*2+1) (by simp;omega) hne (ze _ hbl2 k3)
     have g3:=(HM.out.2.frozen (p:=⟨w.heap.size+1+1,1,none⟩) (by simp)).trans f1
     have hl3:w.heap.size+1+1<w3.heap.size:=by have:=HM.out.2.size;omega
     clear hov3 hg3;refine hK.out _ _ (by exact ⟨c3,x3,d3,d4⟩) (fun hHeld=>?_)
     clear hK K
     try simp only [tkS]
     refine wpAnyH_done (by kernel_rfl) ?_ _
     simp only [z0i,List.drop_succ_cons,List.drop_zero]
     have HMC:Hid (CopR w (w3.setCell ⟨w.heap.size+1+1,1,none⟩ (.slice sa3 (fs.length+1) sc3)) (w.heap.size+1+1) v (.slice sa3 (fs.length+1) sc3) es (fs++[⟨sn,ua,uc,sl⟩])):=HM.out.1;have HB2:Hid (Box2 (w3.setCell ⟨w.heap.size+1+1,1,none⟩ (.slice sa3 (fs.length+1) sc3)) w.heap.size (.slice sa k sc) (.slice (some ⟨b,off,none⟩) m pc)/\Box2 (w3.setCell ⟨w.heap.size+1+1,1,none⟩ (.slice sa3 (fs.length+1) sc3)) (w.heap.size+1) (.slice none 0 0) (.slice none 0 0)):=⟨(HBX.out.1.keep HM.out.2 (by omega)).other (by simp;omega) _,(HBX.out.2.keep HM.out.2 (by omega)).other (by simp) _⟩
     have HCT2:Hid ((fs++[(⟨sn,ua,uc,sl⟩:El)]).map El.ct=(ps.take (j+1)).map El.ct/\True):=⟨by rw [List.map_append,HST.out.1,HCS.out.1];rfl,trivial⟩
     clear HM HM2 c0 c1 f0 f1 d0 d1 HC0 HBX HCS HST x0 x1 k0 k1 k2 k3 x3 d3 d4 HE1;go_wp2;go_roundw
     case rel=>exact ⟨j+1,_,_,by omega,by go_num,HCT2.out.1,HB2.out,HMC.out⟩
     case measure=>simp [intOf];omega
    ·have hjm:j=m:=by omega
     subst hjm;obtain ⟨va,vc,rfl⟩:=hcop.rs.form;obtain ⟨ua,uc,rfl⟩:=hcop.rp.form;obtain ⟨c0,c1,f0,f1,hl⟩:=hcop.box;obtain ⟨x0,x1,-,-,xl⟩:=HBX.out.1;obtain ⟨r0,r1,g0,g1,rl⟩:=HBX.out.2;have hr:=hcop.raw ⟨z71 HES.out.1 HB.out.1.rng,z71 (ts:=fs) (ss:=ps) (by rw [HST.out.1,List.take_of_length_le (by rw [HLN.out.2];exact Nat.le_refl _)]) HB.out.2.rng⟩
     have hon:Only (fun b=>b=w.heap.size+1) wr2 ((wr2.setCell ⟨w.heap.size+1,0,none⟩ (.slice va es.length vc)).setCell ⟨w.heap.size+1,1,none⟩ (.slice ua fs.length uc)):=((Only.refl (fun b=>b=w.heap.size+1) wr2).setCell (p:=⟨w.heap.size+1,0,none⟩) (.inl rfl) _).setCell (p:=⟨w.heap.size+1,1,none⟩) (.inl rfl) _
     have HR:Hid (RawO ((wr2.setCell ⟨w.heap.size+1,0,none⟩ (.slice va es.length vc)).setCell ⟨w.heap.size+1,1,none⟩ (.slice ua fs.length uc)) w.heap.size (.slice va es.length vc) (.slice ua fs.length uc) es fs):=(hr.stay hon (fun b hb e=>by have:=(hr.inside b hb).1;omega)).weak (by omega)
     have HBE:Hid (Below w.heap.size w ((wr2.setCell ⟨w.heap.size+1,0,none⟩ (.slice va es.length vc)).setCell ⟨w.heap.size+1,1,none⟩ (.slice ua fs.length uc))):=(hcop.bel.setCell (p:=⟨w.heap.size+1,0,none⟩) (by simp) _).setCell (p:=⟨w.heap.size+1,1,none⟩) (by simp) _
     have HFS:Hid (fs.map El.ct=ps.map El.ct/\True):=⟨by rw [HST.out.1,List.take_of_length_le (by rw [HLN.out.2];exact Nat.le_refl _)],trivial⟩
     clear hcop hr hon HST HC0 HBX;go_wp2;exact bodyPost_ret (v:=.agg #[.slice va es.length vc,.slice ua fs.length uc]) (by simp [results,Tryz.results145,go_sem,r0,r1]) rfl ⟨⟨_,_,es,fs,rfl,⟨HES.out.1,HFS.out.1⟩,HR.out⟩,HBE.out⟩
structure zlz (w W:World) (B X:Nat) (v u:Value) (es fs:List El):Prop where
 bel:Below w.heap.size w W
 hB:w.heap.size<=B
 hX:w.heap.size<=X
 own:RawO W B v u es fs
 box:Box2 W X v u
 nx:∀ k,z1t v u es fs k->k≠X
section
variable {w W W' w2 w3 : World} {B X : Nat} {v u v' : Value} {es fs : List El} {e : El} {ob : Obj}
end
def zo (ss ps:List El) (f:Nat->Bool):Nat->List El
 | 0=>ss
 | k+1=>if f k=true then (zo ss ps f k).set (ps.getD k de).n.toNat { ps.getD k de with n:=0 } else zo ss ps f k
theorem z69 (ss ps:List El) (f:Nat->Bool) (k:Nat):(zo ss ps f k).length=ss.length:=by
 induction k with
 | zero=>rfl
 | succ k ih=>simp only [zo];split <;> simp [ih]
theorem zk0 {ss ps ts qs:List El} (h1:ts.map El.ct=ss.map El.ct) (h2:qs.map El.ct=ps.map El.ct) (f:Nat->Bool) (k:Nat):(zo ts qs f k).map El.ct=(zo ss ps f k).map El.ct:=by
 induction k with
 | zero=>exact h1
 | succ k ih=>
  have h3:=z0o h2 k
  simp only [El.ct,Prod.mk.injEq] at h3
  simp only [zo]
  split
  ·rw [List.map_set,List.map_set,ih,h3.1]
   simp only [El.ct,h3.2]
  ·exact ih
theorem z4f {ss ps:List El} (h1:∀ e ∈ ss,e.ls.length=256) (h2:∀ k,k<ps.length->(ps.getD k de).ls.length=256) (f:Nat->Bool) (k:Nat) (hk:k<=ps.length):∀ e ∈ zo ss ps f k,e.ls.length=256:=by
 induction k with
 | zero=>exact h1
 | succ k ih=>
  intro e he
  simp only [zo] at he
  split at he
  ·rcases List.mem_or_eq_of_mem_set he with he | rfl
   ·exact ih (by omega) e he
   ·exact h2 k (by omega)
  ·exact ih (by omega) e he
theorem zdg {ss ps:List El} (h1:∀ e ∈ ss,rE false e) (h2:∀ e ∈ ps,rE true e) (f:Nat->Bool) (k:Nat) (hk:k<=ps.length):∀ e ∈ zo ss ps f k,rE false e:=by
 induction k with
 | zero=>exact h1
 | succ k ih=>
  intro e he
  simp only [zo] at he
  split at he
  ·rcases List.mem_or_eq_of_mem_set he with he | rfl
   ·exact ih (by omega) e he
   ·have h3:=h2 _ (zf (es:=ps) (k:=k) (by omega))
    exact ⟨by simp,by simp,h3.len,by simp⟩
  ·exact ih (by omega) e he
def Shl (w:World) (B:Nat) (es:List El):Prop:=∀ e ∈ es,Mine w B w.heap.size e.a e.c e.ls
theorem Shl.stay {S:Nat->Prop} {w w':World} {B:Nat} {es:List El} (h:Shl w B es) (ho:Only S w w') (hs:∀ e ∈ es,∀ k,zg e.a k->¬S k):Shl w' B es:=
 fun e he=>((h e he).stay ho (hs e he)).mono nl ho.size
theorem Shl.below {w w':World} {B:Nat} {es:List El} (h:Shl w B es) (hb:Below w.heap.size w w'):Shl w' B es:=h.stay (Only.ofBelow (S:=fun _=>False) hb nl) (by simp)
structure SetS (w W:World) (B X:Nat) (v u:Value) (es qs:List El):Prop where
 bel:Below w.heap.size w W
 hB:w.heap.size<=B
 hX:w.heap.size<=X
 rs:OVr false W B v es
 rp:OVr true W B u qs
 ss:Shl W B es
 sp:Shl W B qs
 box:Box2 W X v u
 nv:¬v.ownBlock=some X
 nu:¬u.ownBlock=some X
 nl:(∀ e ∈ es,¬zg e.a X)/\∀ e ∈ qs,¬zg e.a X
section
variable {w W W' : World} {B X : Nat} {v u : Value} {es qs : List El}
theorem SetS.step (h:SetS w W B X v u es qs) (hb:Below W.heap.size W W'):SetS w W' B X v u es qs:=
 ⟨h.bel.trans (hb.mono h.bel.size),h.hB,h.hX,h.rs.below hb,h.rp.below hb,h.ss.below hb,h.sp.below hb,h.box.keep hb h.box.lt,h.nv,h.nu,h.nl⟩
theorem SetS.put (h:SetS w W B X v u es qs) {g:Nat} (hg:v.ownBlock=some g) (i j:Nat) (hi:i<es.length) (hj:j<qs.length) :
  SetS w (W.setCell ⟨g,i,none⟩ (.slice (qs.getD j de).a (qs.getD j de).ls.length (qs.getD j de).c)) B X v u (es.set i { qs.getD j de with n:=0 }) qs/\Only (fun b=>b=g) W (W.setCell ⟨g,i,none⟩ (.slice (qs.getD j de).a (qs.getD j de).ls.length (qs.getD j de).c)):=by
 have hon:Only (fun b=>b=g) W (W.setCell ⟨g,i,none⟩ (.slice (qs.getD j de).a (qs.getD j de).ls.length (qs.getD j de).c)):=(Only.refl (fun b=>b=g) W).setCell (p:=⟨g,i,none⟩) (.inl rfl) _
 have hst:=h.rs.store i hi { qs.getD j de with n:=0 } 0 (by simp [eW]) (.slice (qs.getD j de).a (qs.getD j de).ls.length (qs.getD j de).c) rfl hg
 rw [show i*eW false+0=i from by simp [eW]] at hst
 have hgB:=(h.rs.blk hg).1;have hgX:g≠X:=fun e=>h.nv (e ▸ hg)
 refine ⟨⟨h.bel.setCell (p:=⟨g,i,none⟩) (by have:=h.hB;simp only;omega) _,h.hB,h.hX,hst,h.rp.stay hon (fun k hk e=>h.rs.two h.rp (e ▸ hg) hk),?_,h.sp.stay hon (fun e he k hk ek=>h.rs.other (h.sp e he) hg (ek ▸ hk)),h.box.other (by simp only;exact hgX) _,h.nv,h.nu,?_,h.nl.2⟩,hon⟩
 ·intro e he
  rcases List.mem_or_eq_of_mem_set he with he | rfl
  ·exact (h.ss.stay hon (fun e he k hk ek=>h.rs.other (h.ss e he) hg (ek ▸ hk))) e he
  ·exact (h.sp.stay hon (fun e he k hk ek=>h.rs.other (h.sp e he) hg (ek ▸ hk))) (qs.getD j de) (zf hj)
 ·intro e he
  rcases List.mem_or_eq_of_mem_set he with he | rfl
  ·exact h.nl.1 e he
  ·exact h.nl.2 (qs.getD j de) (zf hj)
theorem SetS.drop {va ua:Option Addr} {n vc m uc:Nat} (h:SetS w W B X (.slice va n vc) (.slice ua m uc) es qs) (hr:∀ e ∈ es,rE false e) :
  RawI (W.setCell ⟨X,1,none⟩ (.slice none 0 0)) va none es []/\Below w.heap.size w (W.setCell ⟨X,1,none⟩ (.slice none 0 0))/\Box2 (W.setCell ⟨X,1,none⟩ (.slice none 0 0)) X (.slice va n vc) (.slice none 0 0):=by
 have hon:Only (fun b=>b=X) W (W.setCell ⟨X,1,none⟩ (.slice none 0 0)):=(Only.refl (fun b=>b=X) W).setCell (p:=⟨X,1,none⟩) (.inl rfl) _
 have h1:=h.rs.stay hon (fun k hk e=>h.nv (e ▸ hk))
 have h2:=h.ss.stay hon (fun e he k hk ek=>h.nl.1 e he (ek ▸ hk))
 exact ⟨⟨h1.els (fun e he=>⟨hr e he,(h2 e he).byt⟩),by simp,by simp⟩,h.bel.setCell (p:=⟨X,1,none⟩) (by have:=h.hX;simp only;omega) _,h.box.set1 _⟩
end
theorem zfz (es:List El) (i:Nat) (e:El):(es.set i e).map El.ct=(es.map El.ct).set i e.ct:=List.map_set
def kep (ev:Bool) (bs:List Bool) (k:Nat):Bool:=ev || (decide (k<bs.length) && bs.getD k false)
theorem zat (sa pa:Option Addr) (sc pc:Nat) (ss ps:List El) (ka:Option Addr) (kc:Nat) (bs:List Bool) (ev:Bool) (w:World) (hb:RawI w sa pa ss ps) (hk:Bos w ka bs) (hR:Rok ss ps) (hbl:bs.length<=281474976710656) :
  Calls Tryz.prog 103 #[.agg #[.slice sa ss.length sc,.slice pa ps.length pc],.slice ka bs.length kc,.bool ev] w fun e w'=>
   (∃ v u ts,e=.returned (.agg #[v,u])/\ts.map El.ct=(zo ss ps (kep ev bs) ps.length).map El.ct/\RawO w' w.heap.size v u ts [])/\Below w.heap.size w w':=by
 have HB:Hid (RawI w sa pa ss ps/\Bos w ka bs):=⟨hb,hk⟩;have HR:Hid (Rok ss ps):=hR;have hR1:=hR.1;have hR2:=hR.2.1;have hR3:=hR.2.2.1;clear hb hk hR;have HW:Hid (Below w.heap.size w ((w.alloc (Obj.cells #[.slice sa ss.length sc,.slice pa ps.length pc] 41)).alloc (Obj.cells #[.slice none 0 0,.slice none 0 0] 41))):=((Below.refl _ _).alloc nl _).alloc (by simp) _
 have HX:Hid (Box2 ((w.alloc (Obj.cells #[.slice sa ss.length sc,.slice pa ps.length pc] 41)).alloc (Obj.cells #[.slice none 0 0,.slice none 0 0] 41)) (w.heap.size+1) (.slice none 0 0) (.slice none 0 0)):=by
  have h9:=Box2.new (w.alloc (Obj.cells #[.slice sa ss.length sc,.slice pa ps.length pc] 41)) (.slice none 0 0) (.slice none 0 0) 41
  simp at h9
  exact h9
 go_enter Tryz.func103,Tryz.ntmps103
 go_wp2_with fail
 refine (z92 sa pa sc pc ss ps _ (HB.out.1.below HW.out nl) (by omega) (by omega) (fun s hs=>by have:=HR.out.lens.1 s hs;omega) (fun s hs=>by have:=HR.out.lens.2 s hs;omega)).mono ?_
 rintro e w1 ⟨⟨v,u,ts,qs,rfl,hct,hr1⟩,hb1⟩;have hlt1:w.heap.size+1<((w.alloc (Obj.cells #[.slice sa ss.length sc,.slice pa ps.length pc] 41)).alloc (Obj.cells #[.slice none 0 0,.slice none 0 0] 41)).heap.size:=HX.out.lt;have hxr:=HX.out.keep hb1 HX.out.lt;have hbb:=HW.out.trans (hb1.mono HW.out.size);generalize hB0:((w.alloc (Obj.cells #[.slice sa ss.length sc,.slice pa ps.length pc] 41)).alloc (Obj.cells #[.slice none 0 0,.slice none 0 0] 41)).heap.size=B at *
 have HBB:Hid (w.heap.size+1<B/\B<=w1.heap.size):=⟨hlt1,by rw [<-hB0];exact hb1.size⟩
 obtain ⟨va,vc,ua,uc,rfl,rfl⟩:=hr1.form;have hts:=zm hct.1;have hqs:=zm hct.2;rw [hts,hqs] at hr1;rw [hts,hqs];have HCT:Hid (qs.map El.ct=ps.map El.ct/\qs.length=ps.length):=⟨hct.2,hqs⟩;have hba:Below w1.heap.size w1 (w1.alloc (Obj.cells #[.slice va ss.length vc,.slice ua ps.length uc] 41)):=ba;have HS0:Hid (SetS w (w1.alloc (Obj.cells #[.slice va ss.length vc,.slice ua ps.length uc] 41)) B w1.heap.size (.slice va ss.length vc) (.slice ua ps.length uc) ts qs/\ts.map El.ct=(zo ss ps (kep ev bs) 0).map El.ct):=by
  have hr2:=hr1.below hba;refine ⟨⟨hbb.trans (hba.mono hbb.size),by have:=HBB.out.1;omega,hbb.size,hr2.rs,hr2.rp,fun e he=>hr2.deep.mine e (List.mem_append_left _ he),fun e he=>hr2.deep.mine e (List.mem_append_right _ he),Box2.new _ _ _ _,?_,?_,?_,?_⟩,hct.1⟩
  ·exact fun he=>by have:=(hr1.inside _ (.inl he)).2;omega
  ·exact fun he=>by have:=(hr1.inside _ (.inr (.inl he))).2;omega
  ·exact fun e he hk=>by have:=(hr1.inside _ (.inr (.inr ⟨e,List.mem_append_left _ he,hk⟩))).2;omega
  ·exact fun e he hk=>by have:=(hr1.inside _ (.inr (.inr ⟨e,List.mem_append_right _ he,hk⟩))).2;omega
 have HBR:Hid (Box2 (w1.alloc (Obj.cells #[.slice va ss.length vc,.slice ua ps.length uc] 41)) (w.heap.size+1) (.slice none 0 0) (.slice none 0 0)):=hxr.keep hba hxr.lt;have HXX:Hid (w.heap.size+1<w1.heap.size):=hxr.lt;clear hct hr1 hb1 hxr hbb hba hlt1 hB0 HX HW hts hqs;go_wp2;generalize w1.alloc (Obj.cells #[.slice va ss.length vc,.slice ua ps.length uc] 41)=W0 at *;generalize w1.heap.size=X at *
 generalize hmm:ps.length=m at *;generalize hnn:ss.length=n at *;have HNM:Hid (ps.length=m/\ss.length=n):=⟨hmm,hnn⟩;clear hmm hnn
 go_loopw [8] (fun i wr=>∃ (k:Nat) (es:List El),k<=m/\i=.int .i64 k/\SetS w wr B X (.slice va n vc) (.slice ua m uc) es qs/\es.map El.ct=(zo ss ps (kep ev bs) k).map El.ct/\Box2 wr (w.heap.size+1) (.slice none 0 0) (.slice none 0 0)) (fun i _=>m-(intOf i).toNat)
 case atStart=>exact ⟨0,ts,Nat.zero_le _,rfl,HS0.out.1,HS0.out.2,HBR.out⟩
 case round=>
  clear HS0 HBR;obtain ⟨k,es,hk,rfl,hset,hct,hbx⟩:=hrel;have HSK:Hid (SetS w wr B X (.slice va n vc) (.slice ua m uc) es qs):=hset;have HBX0:Hid (Box2 wr (w.heap.size+1) (.slice none 0 0) (.slice none 0 0)):=hbx;have hesl:es.length=n:=by rw [zm hct,z69];exact HNM.out.2
  have HES:Hid (es.length=n/\es.map El.ct=(zo ss ps (kep ev bs) k).map El.ct):=⟨hesl,hct⟩;obtain ⟨x0,x1,-,-,xl⟩:=hset.box
  by_cases hlt:k<m
  ·have hkq:k<qs.length:=by rw [HCT.out.2];exact hlt
   have hpk:=HR.out.2.2.2.2 k (by rw [HNM.out.1];exact hlt)
   have hce:=z0o HCT.out.1 k;obtain ⟨gs,cs',e1,hgs1,hgs2,hfz,hcs⟩:=hset.rs.cell 0 (by omega)
   obtain ⟨rfl,-,rfl⟩:va=some ⟨gs,0,none⟩/\_/\vc=cs':=by simpa using e1
   obtain ⟨gp,cp',e2,hgp1,hgp2,-,hcp⟩:=hset.rp.cell k hkq;obtain ⟨rfl,-,rfl⟩:ua=some ⟨gp,0,none⟩/\_/\uc=cp':=by simpa using e2
   have hc0:=(hcp k hkq).c0 rfl;have hc1:=(hcp k hkq).c1
   simp only [eW,eO,cond_true] at hc0 hc1
   simp only [El.ct,Prod.mk.injEq] at hce
   unfold pok at hpk;rw [<-hce.1,<-hce.2,HNM.out.2] at hpk;obtain ⟨i0,hi0⟩:=Int.eq_ofNat_of_zero_le hpk.1;have hi0n:i0<n:=by have:=hpk.2.1;omega
   have HCK:Hid ((kep ev bs k=true->(es.set i0 { qs.getD k de with n:=0 }).map El.ct=(zo ss ps (kep ev bs) (k+1)).map El.ct)/\True):=by
    refine ⟨fun hkk=>?_,trivial⟩
    simp only [zo,hkk,if_true]
    rw [zfz,zfz,HES.out.2,<-hce.1,hi0]
    simp only [El.ct,hce.2,Int.toNat_natCast]
   have HCN:Hid ((kep ev bs k=false->es.map El.ct=(zo ss ps (kep ev bs) (k+1)).map El.ct)/\True):=by
    refine ⟨fun hkk=>?_,trivial⟩
    simp only [zo,hkk]
    exact HES.out.2
   have hsd:SetS w wr.drew B X (.slice (some ⟨gs,0,none⟩) n vc) (.slice (some ⟨gp,0,none⟩) m uc) es qs:=hset.step ⟨rfl,rfl,rfl,Nat.le_refl _,fun _ _=>rfl⟩
   have hput:=hsd.put (g:=gs) rfl i0 k (by omega) hkq
   have hgX:gs≠X:=fun e=>hset.nv (by rw [e];rfl)
   have hgH:w.heap.size+1≠gs:=by have:=HBB.out.1;omega
   have HBX1:Hid (Box2 (wr.drew.setCell ⟨gs,i0,none⟩ (.slice (qs.getD k de).a (qs.getD k de).ls.length (qs.getD k de).c)) (w.heap.size+1) (.slice none 0 0) (.slice none 0 0)):=(hbx.keep (B:=wr.heap.size) (W':=wr.drew) ⟨rfl,rfl,rfl,Nat.le_refl _,fun _ _=>rfl⟩ hbx.lt).other (by simp only;omega) _
   obtain ⟨gp2,cp2,e3,-,-,-,hcp2⟩:=hput.1.rp.cell k hkq;obtain ⟨rfl,-,-⟩:gp=gp2/\_/\uc=cp2:=by simpa using e3
   have hd0:=(hcp2 k hkq).c0 rfl;have hd1:=(hcp2 k hkq).c1
   simp only [eW,eO,cond_true] at hd0 hd1
   rw [hi0] at hc0 hd0;have hst:=hcs i0 (by omega)
   have hst1:=hst.c1
   simp only [eW,eO,cond_false,Nat.mul_one,Nat.add_zero] at hst1
   have hfz0:=hfz i0;have HPT:Hid (SetS w (wr.drew.setCell ⟨gs,i0,none⟩ (.slice (qs.getD k de).a (qs.getD k de).ls.length (qs.getD k de).c)) B X (.slice (some ⟨gs,0,none⟩) n vc) (.slice (some ⟨gp,0,none⟩) m uc) (es.set i0 { qs.getD k de with n:=0 }) qs):=hput.1
   have HC0:Hid (wr.cell? ⟨X,0,none⟩=some (.slice (some ⟨gs,0,none⟩) n vc)/\wr.cell? ⟨X,1,none⟩=some (.slice (some ⟨gp,0,none⟩) m uc)/\wr.cell? ⟨gp,k*2,none⟩=some (.int .i64 (i0:Nat))/\wr.cell? ⟨gp,k*2+1,none⟩=some (.slice (qs.getD k de).a (qs.getD k de).ls.length (qs.getD k de).c)):=⟨x0,x1,hc0,hc1⟩;have HC1:Hid ((wr.drew.setCell ⟨gs,i0,none⟩ (.slice (qs.getD k de).a (qs.getD k de).ls.length (qs.getD k de).c)).cell? ⟨X,0,none⟩=some (.slice (some ⟨gs,0,none⟩) n vc)/\(wr.drew.setCell ⟨gs,i0,none⟩ (.slice (qs.getD k de).a (qs.getD k de).ls.length (qs.getD k de).c)).cell? ⟨X,1,none⟩=some (.slice (some ⟨gp,0,none⟩) m uc)/\(wr.drew.setCell ⟨gs,i0,none⟩ (.slice (qs.getD k de).a (qs.getD k de).ls.length (qs.getD k de).c)).cell? ⟨gp,k*2,none⟩=some (.int .i64 (i0:Nat))/\(wr.drew.setCell ⟨gs,i0,none⟩ (.slice (qs.getD k de).a (qs.getD k de).ls.length (qs.getD k de).c)).cell? ⟨gp,k*2+1,none⟩=some (.slice (qs.getD k de).a (qs.getD k de).ls.length (qs.getD k de).c)):=⟨hput.1.box.c0,hput.1.box.c1,hd0,hd1⟩
   have HKB:=HB.out.2.below hset.bel nl;clear hset hct hbx hce hpk e1 e2 e3 hcs hcp hcp2 hsd hput hd0 hd1 hst hi0;generalize hqd:qs.getD k de=qd at *;obtain ⟨qn,qa,qc,ql⟩:=qd
   simp only at HPT HC0 HC1 hc1 HCK HBX1
   clear hqd;have hi0a:(0:Int)<=(i0:Int):=by omega
   have hi0b:(i0:Int)<(n:Int):=by omega
   generalize es.getD i0 de=eo at *
   cases ev with
   | true=>
    have KK:kep true bs k=true:=rfl;go_wp2
    go_region_held3 (fun W=>W.cell? ⟨X,0,none⟩=some (.slice (some ⟨gs,0,none⟩) n vc)/\W.cell? ⟨X,1,none⟩=some (.slice (some ⟨gp,0,none⟩) m uc)/\W.cell? ⟨gp,k*2,none⟩=some (.int .i64 (i0:Nat))/\W.cell? ⟨gp,k*2+1,none⟩=some (.slice qa ql.length qc))
     (first | exact HC0.out | exact HC1.out) (first | fail)
    go_wp2
    go_roundw
    case rel=>exact ⟨k+1,_,by omega,by go_num,HPT.out,HCK.out.1 KK,HBX1.out⟩
    case measure=>simp [intOf];omega
   | false=>
    by_cases hkb:k<bs.length
    ·obtain ⟨kb,ko,rfl,hkb1,hkc⟩:=HKB.pos k hkb
     have hkb2:(k:Int)<(bs.length:Int):=by omega
     cases hz:bs.getD k false with
     | true=>
      rw [hz] at hkc;have KK:kep false bs k=true:=by simp only [kep,hz,decide_eq_true hkb];rfl
      go_wp2
      go_region_held3 (fun W=>W.cell? ⟨X,0,none⟩=some (.slice (some ⟨gs,0,none⟩) n vc)/\W.cell? ⟨X,1,none⟩=some (.slice (some ⟨gp,0,none⟩) m uc)/\W.cell? ⟨gp,k*2,none⟩=some (.int .i64 (i0:Nat))/\W.cell? ⟨gp,k*2+1,none⟩=some (.slice qa ql.length qc))
       (first | exact HC0.out | exact HC1.out) (first | fail)
      go_wp2
      go_roundw
      case rel=>exact ⟨k+1,_,by omega,by go_num,HPT.out,HCK.out.1 KK,HBX1.out⟩
      case measure=>simp [intOf];omega
     | false=>
      rw [hz] at hkc;have KK:kep false bs k=false:=by simp only [kep,hz,decide_eq_true hkb];rfl
      go_wp2
      go_roundw
      case rel=>exact ⟨k+1,_,by omega,by go_num,HSK.out,HCN.out.1 KK,HBX0.out⟩
      case measure=>simp [intOf];omega
    ·have hkb2:¬(k:Int)<(bs.length:Int):=by omega
     have KK:kep false bs k=false:=by simp only [kep,decide_eq_false hkb];rfl
     go_wp2
     go_roundw
     case rel=>exact ⟨k+1,_,by omega,by go_num,HSK.out,HCN.out.1 KK,HBX0.out⟩
     case measure=>simp [intOf];omega
  ·have hkm:k=m:=by omega
   subst hkm;have hdr:=hset.drop (z71 (ss:=zo ss ps (kep ev bs) k) HES.out.2 (zdg HB.out.1.1.rng HB.out.1.2.rng _ _ (by rw [HNM.out.1];exact Nat.le_refl _)))
   have HIN:Hid (RawI (wr.setCell ⟨X,1,none⟩ (.slice none 0 0)) va none es []/\Below w.heap.size w (wr.setCell ⟨X,1,none⟩ (.slice none 0 0))):=⟨hdr.1,hdr.2.1⟩;have HLS:Hid ((∀ s ∈ es,s.ls.length<=1000000)/\True):=⟨fun s hs=>by
    have h9:=z93 (ms:=es) (ss:=zo ss ps (kep ev bs) k) HES.out.2 (z4f HR.out.lens.1 (fun k hk=>HR.out.lens.2 _ (zf hk)) _ _ (by rw [HNM.out.1];exact Nat.le_refl _)) s hs
    omega,trivial⟩
   have HBX2:Hid (Box2 (wr.setCell ⟨X,1,none⟩ (.slice none 0 0)) (w.heap.size+1) (.slice none 0 0) (.slice none 0 0)):=hbx.other (by have:=HXX.out;simp only;omega) _
   obtain ⟨y0,y1,y2,y3,yl⟩:=hset.box;obtain ⟨z0,z1,z2,z3,zl⟩:=hdr.2.2;have hown:=z92 va none vc 0 es [] _ HIN.out.1 (by omega) (by simp) HLS.out.1 (by simp)
   rw [hesl] at hown
   simp only [List.length_nil] at hown
   clear hset hct hbx hdr x0 x1 xl HSK HBX0;go_wp2_with fail
   refine hown.mono ?_;clear hown;rintro e w2 ⟨⟨v2,u2,ts2,qs2,rfl,hct2,hr2⟩,hb2⟩;have hq0:qs2=[]:=List.map_eq_nil_iff.1 (by rw [hct2.2];rfl)
   subst hq0;obtain ⟨ka2,kc2,pa2,pc2,rfl,rfl⟩:=hr2.form;obtain ⟨r0,r1,r2,r3,rl⟩:=HBX2.out.keep hb2 HBX2.out.lt;have hon:Only (fun b=>b=w.heap.size+1) w2 ((w2.setCell ⟨w.heap.size+1,0,none⟩ (.slice ka2 ts2.length kc2)).setCell ⟨w.heap.size+1,1,none⟩ (.slice pa2 0 pc2)):=((Only.refl (fun b=>b=w.heap.size+1) w2).setCell (p:=⟨w.heap.size+1,0,none⟩) (.inl rfl) _).setCell (p:=⟨w.heap.size+1,1,none⟩) (.inl rfl) _
   have hX1:w.heap.size+1<(wr.setCell ⟨X,1,none⟩ (.slice none 0 0)).heap.size:=HBX2.out.lt;have HRR:Hid (RawO ((w2.setCell ⟨w.heap.size+1,0,none⟩ (.slice ka2 ts2.length kc2)).setCell ⟨w.heap.size+1,1,none⟩ (.slice pa2 0 pc2)) w.heap.size (.slice ka2 ts2.length kc2) (.slice pa2 0 pc2) ts2 []):=(hr2.stay hon (fun b hb e=>by have:=(hr2.inside b hb).1;omega)).weak (by omega)
   have hbb:=HIN.out.2.trans (hb2.mono HIN.out.2.size);have HBE:Hid (Below w.heap.size w ((w2.setCell ⟨w.heap.size+1,0,none⟩ (.slice ka2 ts2.length kc2)).setCell ⟨w.heap.size+1,1,none⟩ (.slice pa2 0 pc2))):=(hbb.setCell (p:=⟨w.heap.size+1,0,none⟩) (by simp) _).setCell (p:=⟨w.heap.size+1,1,none⟩) (by simp) _
   have HCC:Hid (ts2.map El.ct=(zo ss ps (kep ev bs) ps.length).map El.ct/\True):=⟨by rw [hct2.1,HES.out.2,HNM.out.1],trivial⟩
   clear hr2 hb2 hon hbb hct2 hX1 y0 y1 z0 z1;go_wp2;exact bodyPost_ret (v:=.agg #[.slice ka2 ts2.length kc2,.slice pa2 0 pc2]) (by simp [results,Tryz.results103,go_sem,r0,r1]) rfl ⟨⟨_,_,ts2,rfl,HCC.out.1,HRR.out⟩,HBE.out⟩
def seS (ss ps:List El) (ev:Bool) (bs:List Bool):List (Int × List Int):=if rok ss ps=true then (zo ss ps (kep ev bs) ps.length).map El.ct else []
def brB (ss ps:List El):Bool:=rok ss ps
def brS (ss ps:List El):List (Int × List Int):=seS ss ps true []
def brP (ss ps:List El):List (Int × List Int):=[]
def crB (ss ps:List El) (bs:List Bool):Bool:=rok ss ps
def crS (ss ps:List El) (bs:List Bool):List (Int × List Int):=seS ss ps false bs
def crP (ss ps:List El) (bs:List Bool):List (Int × List Int):=[]
theorem zlj {ss ps ts qs:List El} (h1:ts.map El.ct=ss.map El.ct) (h2:qs.map El.ct=ps.map El.ct) (ev:Bool) (bs:List Bool):seS ts qs ev bs=seS ss ps ev bs:=by
 unfold seS;rw [zbx h1 h2,zm h2,zk0 h1 h2]
theorem zlg {ss ps ts qs:List El} (h1:ts.map El.ct=ss.map El.ct) (h2:qs.map El.ct=ps.map El.ct) (bs:List Bool):crB ts qs bs=crB ss ps bs/\crS ts qs bs=crS ss ps bs/\crP ts qs bs=crP ss ps bs:=⟨zbx h1 h2,zlj h1 h2 _ _,rfl⟩
theorem zfn {ss ps:List El} (h:rok ss ps=true) (ev:Bool) (bs:List Bool):seS ss ps ev bs=(zo ss ps (kep ev bs) ps.length).map El.ct:=by unfold seS;rw [if_pos h]
theorem zis {ss ps:List El} (h:rok ss ps=false) (ev:Bool) (bs:List Bool):seS ss ps ev bs=[]:=by unfold seS;rw [if_neg (by rw [h];simp)]
theorem z9b {es:List El} (h:∀ e ∈ es,e.ls.length=256):zb es=es.length*256:=by
 induction es with
 | nil=>rfl
 | cons e es ih=>
  simp only [zb,ih (fun x hx=>h x (List.mem_cons_of_mem _ hx)),h e (List.mem_cons_self ..),List.length_cons]
  omega
theorem zjw {ms ns:List El} (h1:ms.length<=24) (h2:ns.length<=61) (h3:∀ e ∈ ms,e.ls.length=256) (h4:∀ e ∈ ns,e.ls.length=256):Few ms ns:=
 Few.mk' (by rw [z9b h3,z9b h4];omega)
theorem zla {ss ps:List El} {ev:Bool} {bs:List Bool} (ms ns:List El) (h1:ms.map El.ct=seS ss ps ev bs) (h2:ns.map El.ct=[]):Few ms ns:=by
 have e2:ns=[]:=List.map_eq_nil_iff.1 h2;subst e2;unfold seS at h1
 split at h1
 case isTrue h=>
  have hR:=zb8 h;refine zjw (by rw [zm h1,z69];exact hR.2.1) (by simp) (z93 h1 (z4f hR.lens.1 (fun k hk=>hR.lens.2 _ (zf hk)) _ _ nl)) (by simp)
 case isFalse h=>
  have e1:ms=[]:=List.map_eq_nil_iff.1 h1;subst e1;exact Few.mk' (by simp [zb])
theorem zkk {ss ps:List El} {bs:List Bool} (ms ns:List El) (h1:ms.map El.ct=crS ss ps bs) (h2:ns.map El.ct=crP ss ps bs):Few ms ns:=zla ms ns h1 h2
def CdR (f:List Int->Option (List Int)) (d:DkV) (bs:List Bool) (AS BS:List (Int × List Int)) (r:Bool):Prop:=
 (DkG f d/\AS=crS d.ss d.ps bs/\BS=crP d.ss d.ps bs/\r=crB d.ss d.ps bs)\/(¬DkG f d/\AS=[]/\BS=[]/\r=false)
theorem CdR.same {f:List Int->Option (List Int)} {e d:DkV} {bs:List Bool} {AS BS:List (Int × List Int)} {r:Bool} (hs:DkS e d) (h:CdR f e bs AS BS r):CdR f d bs AS BS r:=by
 have hc:=zlg hs.ss hs.ps bs;rcases h with ⟨h1,h2,h3,h4⟩ | ⟨h1,h2⟩
 ·exact .inl ⟨h1.same hs,by rw [h2,hc.2.1],by rw [h3,hc.2.2],by rw [h4,hc.1]⟩
 ·exact .inr ⟨fun h=>h1 (h.same hs.symm),h2⟩
theorem CdR.uniq {f:List Int->Option (List Int)} {d:DkV} {bs:List Bool} {AS BS AS' BS':List (Int × List Int)} {r r':Bool} (h:CdR f d bs AS BS r) (k:CdR f d bs AS' BS' r'):AS=AS'/\BS=BS'/\r=r':=by
 rcases h with ⟨h1,h2,h3,h4⟩ | ⟨h1,h2,h3,h4⟩ <;> rcases k with ⟨k1,k2,k3,k4⟩ | ⟨k1,k2,k3,k4⟩
 ·exact ⟨by rw [h2,k2],by rw [h3,k3],by rw [h4,k4]⟩
 ·exact absurd h1 k1
 ·exact absurd k1 h1
 ·exact ⟨by rw [h2,k2],by rw [h3,k3],by rw [h4,k4]⟩
theorem CdR.few {f:List Int->Option (List Int)} {d:DkV} {bs:List Bool} {ms ns:List El} {r:Bool} (h:CdR f d bs (ms.map El.ct) (ns.map El.ct) r):Few ms ns:=by
 rcases h with ⟨-,h2,h3,-⟩ | ⟨-,h2,h3,-⟩
 ·exact zkk ms ns h2 h3
 ·have e1:ms=[]:=List.map_eq_nil_iff.1 h2
  have e2:ns=[]:=List.map_eq_nil_iff.1 h3;subst e1 e2;exact ⟨by simp,by simp,by simp,by simp,by simp [zb]⟩
def CdA (R:List (Int × List Int)->List (Int × List Int)->Bool->Prop) (w:World) (e:Ending) (w':World):Prop:=
 (∃ v u ms ns r,e=.returned (.tuple #[.agg #[v,u],.bool r])/\R (ms.map El.ct) (ns.map El.ct) r/\RawO w' w.heap.size v u ms ns)/\Below w.heap.size w w'
theorem RawO.none (w:World) (B:Nat):RawO w B (.slice .none 0 0) (.slice .none 0 0) [] []:=⟨OVr.nil _ _ _,OVr.nil _ _ _,Deep.nil _ _,by simp,by simp⟩
theorem z6b (sa pa:Option Addr) (sc pc:Nat) (ss ps:List El) (da:Option Addr) (dc:Nat) (ds:List Bool) (w:World) (hb:RawI w sa pa ss ps) (hd:Bos w da ds) (hx:ss.length<=281474976710656) (hy:ps.length<=281474976710656) (hxl:∀ s ∈ ss,s.ls.length<=281474976710656) (hyl:∀ s ∈ ps,s.ls.length<=281474976710656) (hdl:ds.length<=281474976710656) :
  Calls Tryz.prog 61 #[.agg #[.slice sa ss.length sc,.slice pa ps.length pc],.slice da ds.length dc] w fun e w'=>(∃ v u ts qs,e=.returned (.tuple #[.agg #[v,u],.bool (crB ss ps ds)])/\(ts.map El.ct=crS ss ps ds/\qs.map El.ct=crP ss ps ds)/\RawO w' w.heap.size v u ts qs)/\Below w.heap.size w w':=by
 have HB:Hid (RawI w sa pa ss ps/\Bos w da ds):=⟨hb,hd⟩;have HW:Hid (Below w.heap.size w ((w.alloc (Obj.cells #[.slice sa ss.length sc,.slice pa ps.length pc] 41)).alloc (Obj.cells #[.slice none 0 0,.slice none 0 0] 41))):=((Below.refl _ _).alloc nl _).alloc (by simp) _
 have HX:Hid (Box2 ((w.alloc (Obj.cells #[.slice sa ss.length sc,.slice pa ps.length pc] 41)).alloc (Obj.cells #[.slice none 0 0,.slice none 0 0] 41)) w.heap.size (.slice sa ss.length sc) (.slice pa ps.length pc)/\Box2 ((w.alloc (Obj.cells #[.slice sa ss.length sc,.slice pa ps.length pc] 41)).alloc (Obj.cells #[.slice none 0 0,.slice none 0 0] 41)) (w.heap.size+1) (.slice none 0 0) (.slice none 0 0)):=by
  refine ⟨(Box2.new _ _ _ _).alloc _,?_⟩;have h9:=Box2.new (w.alloc (Obj.cells #[.slice sa ss.length sc,.slice pa ps.length pc] 41)) (.slice none 0 0) (.slice none 0 0) 41
  simpa using h9
 have HSP:=z44 sa pa sc pc ss ps _ (HB.out.1.below HW.out nl) hx hy hxl hyl;clear hb hxl hyl hd;obtain ⟨AS,hAS⟩:∃ AS,AS=seS ss ps false ds:=⟨_,rfl⟩;rw [show crS ss ps ds=AS from hAS.symm,show crP ss ps ds=[] from rfl,show (crB ss ps ds)=rok ss ps from rfl]
 cases hr:rok ss ps with
 | true=>
  rw [hr] at HSP;rw [zfn hr] at hAS;have HAS:Hid (AS=(zo ss ps (kep false ds) ps.length).map El.ct/\True):=⟨hAS,trivial⟩;have HR:Hid (Rok ss ps):=zb8 hr;clear hAS hr
  go_enter Tryz.func61,Tryz.ntmps61
  go_wp2_with fail
  refine HSP.mono ?_;clear HSP;rintro e w1 ⟨rfl,hb1⟩;have HX1:Hid (Box2 w1 w.heap.size (.slice sa ss.length sc) (.slice pa ps.length pc)/\Box2 w1 (w.heap.size+1) (.slice none 0 0) (.slice none 0 0)/\Below w.heap.size w w1):=⟨HX.out.1.keep hb1 HX.out.1.lt,HX.out.2.keep hb1 HX.out.2.lt,HW.out.trans (hb1.mono HW.out.size)⟩;obtain ⟨x0,x1,-,-,xl⟩:=HX1.out.1;clear hb1 HX HW;have HST:=zat sa pa sc pc ss ps da dc ds false w1 (HB.out.1.below HX1.out.2.2 nl) (HB.out.2.below HX1.out.2.2 nl) HR.out hdl
  go_wp2_with fail
  refine HST.mono ?_;clear HST;rintro e w2 ⟨⟨v2,u2,ts2,rfl,hct2,hr2⟩,hb2⟩;obtain ⟨ka2,kc2,pa2,pc2,rfl,rfl⟩:=hr2.form;obtain ⟨r0,r1,r2,r3,rl⟩:=HX1.out.2.1.keep hb2 HX1.out.2.1.lt;have hon:Only (fun b=>b=w.heap.size+1) w2 ((w2.setCell ⟨w.heap.size+1,0,none⟩ (.slice ka2 ts2.length kc2)).setCell ⟨w.heap.size+1,1,none⟩ (.slice pa2 0 pc2)):=((Only.refl (fun b=>b=w.heap.size+1) w2).setCell (p:=⟨w.heap.size+1,0,none⟩) (.inl rfl) _).setCell (p:=⟨w.heap.size+1,1,none⟩) (.inl rfl) _
  have hX1:w.heap.size+1<w1.heap.size:=HX1.out.2.1.lt;have HRR:Hid (RawO ((w2.setCell ⟨w.heap.size+1,0,none⟩ (.slice ka2 ts2.length kc2)).setCell ⟨w.heap.size+1,1,none⟩ (.slice pa2 0 pc2)) w.heap.size (.slice ka2 ts2.length kc2) (.slice pa2 0 pc2) ts2 []):=(hr2.stay hon (fun b hb e=>by have:=(hr2.inside b hb).1;omega)).weak (by omega)
  have hbb:=HX1.out.2.2.trans (hb2.mono HX1.out.2.2.size);have HBE:Hid (Below w.heap.size w ((w2.setCell ⟨w.heap.size+1,0,none⟩ (.slice ka2 ts2.length kc2)).setCell ⟨w.heap.size+1,1,none⟩ (.slice pa2 0 pc2))):=(hbb.setCell (p:=⟨w.heap.size+1,0,none⟩) (by simp) _).setCell (p:=⟨w.heap.size+1,1,none⟩) (by simp) _
  have HCC:Hid (ts2.map El.ct=AS/\True):=⟨by rw [hct2,HAS.out.1],trivial⟩
  clear hr2 hb2 hon hbb hct2 hX1 x0 x1 xl;go_wp2;exact bodyPost_ret (v:=.tuple #[.agg #[.slice ka2 ts2.length kc2,.slice pa2 0 pc2],.bool true]) (by simp [results,Tryz.results61,go_sem,r0,r1]) rfl ⟨⟨_,_,ts2,[],rfl,⟨HCC.out.1,rfl⟩,HRR.out⟩,HBE.out⟩
 | false=>
  rw [hr] at HSP;rw [zis hr] at hAS;subst hAS;clear hr
  go_enter Tryz.func61,Tryz.ntmps61
  go_wp2_with fail
  refine HSP.mono ?_;clear HSP;rintro e w1 ⟨rfl,hb1⟩;obtain ⟨x0,x1,-,-,xl⟩:=HX.out.1.keep hb1 HX.out.1.lt;obtain ⟨r0,r1,r2,r3,rl⟩:=HX.out.2.keep hb1 HX.out.2.lt;have hbb:Below w.heap.size w w1:=HW.out.trans (hb1.mono HW.out.size);have HB1:Hid (Below w.heap.size w ((w1.setCell ⟨w.heap.size+1,0,none⟩ (.slice none 0 0)).setCell ⟨w.heap.size+1,1,none⟩ (.slice none 0 0))):=(hbb.setCell (p:=⟨w.heap.size+1,0,none⟩) (by simp) _).setCell (p:=⟨w.heap.size+1,1,none⟩) (by simp) _
  clear hb1 hbb;go_wp2;exact bodyPost_ret (v:=.tuple #[.agg #[.slice none 0 0,.slice none 0 0],.bool false]) (by simp [results,Tryz.results61,go_sem,r0,r1]) rfl ⟨⟨_,_,[],[],rfl,⟨rfl,rfl⟩,⟨OVr.nil _ _ _,OVr.nil _ _ _,Deep.nil _ _,by simp,by simp⟩⟩,HB1.out⟩
end Go.Proofs.YtaibkchbkedjnaaGreatDoor
