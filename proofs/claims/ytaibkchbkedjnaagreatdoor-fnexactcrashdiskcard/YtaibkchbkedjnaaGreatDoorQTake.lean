/- Lemmas on the way. -/
import Derived.Test.YtaibkchbkedjnaaGreatDoorQueue
set_option maxRecDepth 20000
set_option maxHeartbeats 16000000
namespace Go.Proofs.YtaibkchbkedjnaaGreatDoor
open Go.RowKit
set_option linter.unusedVariables false
set_option linter.unusedSimpArgs false
theorem take_any (Q g off n c:Nat) (x:Int) (a:Option Addr) (l ec:Nat) (w:World) (hq:Box2 w Q (.slice (some ⟨g,off,none⟩) (n+1) c) (.int .i64 60)) (hc:n+1≤c) (hn:n≤1000000) (h0:w.cell? ⟨g,off,none⟩=some (.int .i64 x)) (h1:w.cell? ⟨g,off+1,none⟩=some (.slice a l ec)) :
  Calls Tryz.prog 148 #[.pointer (some ⟨Q,0,none⟩)] w fun e w'=>e=.returned (.tuple #[.agg #[.int .i64 x,.slice a l ec],.bool true])∧(∃ o',Box2 w' Q (.slice (some ⟨g,o',none⟩) n (c-1)) (.int .i64 60)∧(0<n→o'=off+2))∧Below Q w w'∧Only (fun b=>b=Q) w w':=by
 have HQ:Hid (Box2 w Q (.slice (some ⟨g,off,none⟩) (n+1) c) (.int .i64 60)):=hq
 obtain ⟨z0,z1,y0,y1,zl⟩:=hq
 have hgl:=World.block_lt_of_cell? _ _ h0
 simp only at hgl
 have hcmp:((((n+1:Nat):Int)) == 0)=false:=by rw [beq_eq_false_iff_ne];omega
 have HON:Hid (∀ o':Nat,(0<n→o'=off+2)→∀ ob1 ob2:Obj,(∃ p',Box2 (((w.setCell ⟨Q,0,none⟩ (.slice (some ⟨g,o',none⟩) n (c-1))).alloc ob1).alloc ob2) Q (.slice (some ⟨g,p',none⟩) n (c-1)) (.int .i64 60)∧(0<n→p'=off+2))∧Below Q w (((w.setCell ⟨Q,0,none⟩ (.slice (some ⟨g,o',none⟩) n (c-1))).alloc ob1).alloc ob2)∧Only (fun b=>b=Q) w (((w.setCell ⟨Q,0,none⟩ (.slice (some ⟨g,o',none⟩) n (c-1))).alloc ob1).alloc ob2)):=by
  intro o' ho ob1 ob2
  have hb1:Below w.heap.size (w.setCell ⟨Q,0,none⟩ (.slice (some ⟨g,o',none⟩) n (c-1))) (((w.setCell ⟨Q,0,none⟩ (.slice (some ⟨g,o',none⟩) n (c-1))).alloc ob1).alloc ob2):=((Below.refl _ _).alloc (by simp) _).alloc (by simp) _
  refine ⟨⟨o',(((HQ.out.set0 _).alloc _).alloc _),ho⟩,?_,?_⟩
  ·exact ((Below.refl Q w).setCell (p:=⟨Q,0,none⟩) (by simp) _).trans (hb1.mono (by omega))
  ·exact ((Only.refl (fun b=>b=Q) w).setCell (p:=⟨Q,0,none⟩) (.inl rfl) _).trans (Only.ofBelow hb1 (by simp))
 go_enter Tryz.func148,Tryz.ntmps148
 go_wp2
 case inl h=>
  subst h
  exact bodyPost_ret (v:=.tuple #[.agg #[.int .i64 x,.slice a l ec],.bool true]) (by simp [results,Tryz.results148,go_sem]) rfl ⟨rfl,HON.out off (by omega) _ _⟩
 case inr h=>
  exact bodyPost_ret (v:=.tuple #[.agg #[.int .i64 x,.slice a l ec],.bool true]) (by simp [results,Tryz.results148,go_sem]) rfl ⟨rfl,HON.out (off+2) (fun _=>rfl) _ _⟩
end Go.Proofs.YtaibkchbkedjnaaGreatDoor
