/- Lemmas on the way. -/
import Derived.Test.YtaibkchbkedjnaaGreatDoorClone
namespace Go.Proofs.YtaibkchbkedjnaaGreatDoor
open Go.RowKit
set_option linter.unusedVariables false
structure CopR (w W:World) (X:Nat) (v u:Value) (es fs:List El):Prop where
 bel:Below w.heap.size w W
 hX:w.heap.size≤X
 rs:OVr false W (X+1) v es
 rp:OVr true W (X+1) u fs
 deep:Deep W (X+1) (es++fs)
 box:Box2 W X v u
section
variable {w W W' w2 w3 : World} {X : Nat} {v u v' : Value} {es fs : List El} {e : El} {ob : Obj}
theorem CopR.step (h:CopR w W X v u es fs) (hb:Below W.heap.size W W'):CopR w W' X v u es fs:=
 ⟨h.bel.trans (hb.mono h.bel.size),h.hX,h.rs.below hb,h.rp.below hb,h.deep.below hb,h.box.keep hb h.box.lt⟩
theorem cop_mid (h:CopR w W X v u es fs) (hb:Below W.heap.size W w2) (hm:Mine w2 W.heap.size w2.heap.size e.a e.c e.ls):Below W.heap.size W (w2.alloc ob)∧X+1≤(w2.alloc ob).heap.size∧Deep (w2.alloc ob) (X+1) ((es++fs)++[e]):=by
 have hba:Below w2.heap.size w2 (w2.alloc ob):=ba
 have hlt:=h.box.lt
 have hs2:=hb.size
 refine ⟨hb.trans (hba.mono hs2),by simp;omega,?_⟩
 exact ((h.deep.below hb).snoc (U:=W.heap.size) hm (fun x hx k hk=>h.deep.lt x hx k hk) (by omega)).below hba
theorem CopR.moreS (h:CopR w W X v u es []) (hb:Below W.heap.size W w2) (hm:Mine w2 W.heap.size w2.heap.size e.a e.c e.ls) (hov:OVr false w3 (X+1) v' (es++[e])) (hg:(w2.alloc ob).grownBy w3 v.ownBlock) :
  CopR w (w3.setCell ⟨X,0,none⟩ v') X v' u (es++[e]) []∧Below (X+1) W w3:=by
 obtain ⟨hb2,hx2,hd2⟩:=cop_mid (ob:=ob) h hb hm
 have hx:=h.hX
 have hlt:=h.box.lt
 have hr2:=h.rs.below hb2
 have hbw:Below (X+1) W w3:=appE_below (hb2.mono (by omega)) hx2 hr2 hg
 rw [List.append_nil] at hd2
 have hd3:=hd2.grown hr2 hg
 have hon:Only (fun b=>b=X) w3 (w3.setCell ⟨X,0,none⟩ v'):=(Only.refl (fun b=>b=X) w3).setCell (p:=⟨X,0,none⟩) (.inl rfl) _
 have hp3:OVr true w3 (X+1) u []:=(h.rp.below hb2).stay (Only.ofGrown hg) (fun k hk e=>hr2.two (h.rp.below hb2) e hk)
 refine ⟨⟨(h.bel.trans (hbw.mono (by omega))).setCell (p:=⟨X,0,none⟩) hx _,hx,?_,?_,?_,(h.box.keep hbw (by omega)).set0 _⟩,hbw⟩
 ·exact hov.stay hon (fun b hb e=>by have:=(hov.blk hb).1;omega)
 ·exact hp3.stay hon (fun b hb e=>by have:=(hp3.blk hb).1;omega)
 ·rw [List.append_nil]
  exact hd3.stay hon (fun x hx b hb e=>by have:=((hd3.mine x hx).rowE hb).1;omega)
theorem CopR.moreP (h:CopR w W X v u es fs) (hb:Below W.heap.size W w2) (hm:Mine w2 W.heap.size w2.heap.size e.a e.c e.ls) (hov:OVr true w3 (X+1) v' (fs++[e])) (hg:(w2.alloc ob).grownBy w3 u.ownBlock) :
  CopR w (w3.setCell ⟨X,1,none⟩ v') X v v' es (fs++[e])∧Below (X+1) W w3:=by
 obtain ⟨hb2,hx2,hd2⟩:=cop_mid (ob:=ob) h hb hm
 have hx:=h.hX
 have hlt:=h.box.lt
 have hr2:=h.rp.below hb2
 have hbw:Below (X+1) W w3:=appE_below (hb2.mono (by omega)) hx2 hr2 hg
 rw [List.append_assoc] at hd2
 have hd3:=hd2.grown hr2 hg
 have hon:Only (fun b=>b=X) w3 (w3.setCell ⟨X,1,none⟩ v'):=(Only.refl (fun b=>b=X) w3).setCell (p:=⟨X,1,none⟩) (.inl rfl) _
 have hp3:OVr false w3 (X+1) v es:=(h.rs.below hb2).stay (Only.ofGrown hg) (fun k hk e=>(h.rs.below hb2).two hr2 hk e)
 refine ⟨⟨(h.bel.trans (hbw.mono (by omega))).setCell (p:=⟨X,1,none⟩) hx _,hx,?_,?_,?_,(h.box.keep hbw (by omega)).set1 _⟩,hbw⟩
 ·exact hp3.stay hon (fun b hb e=>by have:=(hp3.blk hb).1;omega)
 ·exact hov.stay hon (fun b hb e=>by have:=(hov.blk hb).1;omega)
 ·exact hd3.stay hon (fun x hx b hb e=>by have:=((hd3.mine x hx).rowE hb).1;omega)
theorem CopR.raw (h:CopR w W X v u es fs) (hr:(∀ e ∈ es,rE false e)∧∀ e ∈ fs,rE true e):RawO W (X+1) v u es fs:=⟨h.rs,h.rp,h.deep,hr⟩
end
theorem rE_ct {p:Bool} {ss ts:List El} (h:ts.map El.ct=ss.map El.ct) (hr:∀ e ∈ ss,rE p e):∀ e ∈ ts,rE p e:=by
 intro e he
 obtain ⟨i,hi,rfl⟩:=memE_get he
 have h1:=ctE_get h i
 have h2:=hr _ (getD_memE (k:=i) (by rw [←len_ctE h];exact hi))
 simp only [El.ct,Prod.mk.injEq] at h1
 exact ⟨by rw [h1.1];exact h2.lo,by rw [h1.1];exact h2.hi,by rw [h1.2];exact h2.len,fun hp=>by rw [h1.1];exact h2.zero hp⟩
theorem Els.rng {p:Bool} {w:World} {a:Option Addr} {es:List El} (h:Els p w a es):∀ e ∈ es,rE p e:=fun e he=>(h.1 e he).1
end Go.Proofs.YtaibkchbkedjnaaGreatDoor
