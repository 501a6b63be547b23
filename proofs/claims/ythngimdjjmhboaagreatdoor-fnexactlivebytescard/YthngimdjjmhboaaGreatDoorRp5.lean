/-
  PackRead of the program: a reader that gives up by a panic, which one deferred function recovers at the face.
-/
import Derived.Test.YthngimdjjmhboaaGreatDoorRp4
import Derived.Defers
import Derived.Recover
namespace Go.Proofs.YthngimdjjmhboaaGreatDoor
open Go.RowKit
set_option linter.unusedVariables false
set_option linter.unusedSimpArgs false

theorem catchP_panicking (p q:Nat) (x0 x1 x2 y:Value) (u:TypeId) (pv:Value) (older:List PanicEntry) (w:World) (hp:Box3 w p x0 x1 x2) (hq:w.cell? ⟨q,0,none⟩=some y) (hz:w.frozen? ⟨q,0,none⟩=false) (hne:¬q=p) :
  CallsD Tryz.prog 171 #[.pointer (some ⟨p,0,none⟩),.pointer (some ⟨q,0,none⟩)] (.panicking ({ v:=.iface u pv,recovered:=false } :: older)) w fun e u' w'=>
   e=.returned (.tuple #[])∧u'=.panicking ({ v:=.iface u pv,recovered:=true } :: older)∧w'=(((w.setCell ⟨p,0,none⟩ (.int .i64 0)).setCell ⟨p,1,none⟩ (.int .i64 0)).setCell ⟨p,2,none⟩ (.slice none 0 0)).setCell ⟨q,0,none⟩ (.bool false):=by
 obtain ⟨c0,c1,c2,f0,f1,f2,pl⟩:=hp
 refine callsD_of_wpS Tryz.func171 rfl fun c₀ cs hu=>?_
 apply wpS_seq
 apply wpS_region
 simp [wpOpsS,go_sem,recoverD,hu,Tryz.ntmps171,Exit.thenS]
 refine wpS_cond (t:=true) (by simp [Act.eval,Array.replicate]) ?_
 simp only [if_true]
 apply wpS_region
 simp [wpOpsS,go_sem,c0,c1,c2,f0,f1,f2,hq,hz,hne,bodyPostS,results,Tryz.results171]

theorem catchP_idle (p q:Nat) (w:World) :
  CallsD Tryz.prog 171 #[.pointer (some ⟨p,0,none⟩),.pointer (some ⟨q,0,none⟩)] .returning w fun e u' w'=>e=.returned (.tuple #[])∧u'=.returning∧w'=w:=by
 refine callsD_of_wpS Tryz.func171 rfl fun c₀ cs hu=>?_
 apply wpS_seq
 apply wpS_region
 simp [wpOpsS,go_sem,recoverD,hu,Tryz.ntmps171,Exit.thenS]
 refine wpS_cond (t:=false) (by simp [Act.eval,Array.replicate]) ?_
 simp only [Bool.false_eq_true,if_false]
 refine wpS_of_wp (wp_skip ?_)
 cases c₀
 simp_all [bodyPostS,results,Tryz.results171]

def PrA (f:List Int→Option (List Int)) (zs:List Int) (w:World) (r:Ending) (w':World):Prop:=
 ((PrG f zs∧∃ v fs,r=.returned (.tuple #[.agg #[.int .i64 (rpE zs),.int .i64 (rpO zs),v],.bool true])∧CopT w' w.heap.size v fs (itL zs (rpM zs) (rpM zs)))∨(¬PrG f zs∧r=.returned (.tuple #[.agg #[.int .i64 0,.int .i64 0,.slice none 0 0],.bool false])))∧Below w.heap.size w w'

set_option maxRecDepth 20000 in
set_option maxHeartbeats 8000000 in
theorem implPackRead_any (f:List Int→Option (List Int)) (hf:DecF f) (a:Option Addr) (cap:Nat) (zs:List Int) (w:World) (hb:Byt w a zs) (hm:zs.length≤281474976710656) (hc:zs.length≤cap) (hc2:cap≤9223372036854775807) (hS:SentR w) :
  Calls Tryz.prog 140 #[.slice a zs.length cap] w (PrA f zs w):=by
 have hmf:∀ (fn:Fn) (first cap:Array Value) (w:World),(Instr.makeFunc fn first cap).run Tryz.prog w=.ok (.func fn first cap) w:=fun _ _ _ _=>rfl
 have hw0:Below w.heap.size w (w.alloc (Obj.cells #[Value.int IntKind.i64 0,Value.int IntKind.i64 0,Value.slice none 0 0] 47)):=(Below.refl _ _).alloc (Nat.le_refl _) _
 have hw:Below w.heap.size w ((w.alloc (Obj.cells #[Value.int IntKind.i64 0,Value.int IntKind.i64 0,Value.slice none 0 0] 47)).alloc (Obj.cells #[Value.bool false] 4)):=hw0.alloc (by simp) _
 have hP:=(Box3.new w (.int .i64 0) (.int .i64 0) (.slice none 0 0) 47).alloc (Obj.cells #[Value.bool false] 4)
 have q0:((w.alloc (Obj.cells #[Value.int IntKind.i64 0,Value.int IntKind.i64 0,Value.slice none 0 0] 47)).alloc (Obj.cells #[Value.bool false] 4)).cell? ⟨w.heap.size+1,0,none⟩=some (.bool false):=by simp
 have q1:((w.alloc (Obj.cells #[Value.int IntKind.i64 0,Value.int IntKind.i64 0,Value.slice none 0 0] 47)).alloc (Obj.cells #[Value.bool false] 4)).frozen? ⟨w.heap.size+1,0,none⟩=false:=by simp
 have hsz:((w.alloc (Obj.cells #[Value.int IntKind.i64 0,Value.int IntKind.i64 0,Value.slice none 0 0] 47)).alloc (Obj.cells #[Value.bool false] 4)).heap.size=w.heap.size+1+1:=by simp
 by_cases h256:zs.length=256
 rotate_left 1
 ·obtain ⟨T,x,g0⟩:=(hS.below hw).sz
  have HF:Hid (PrA f zs w (.returned (.tuple #[.agg #[.int .i64 0,.int .i64 0,.slice none 0 0],.bool false])) ((((((w.alloc (Obj.cells #[Value.int IntKind.i64 0,Value.int IntKind.i64 0,Value.slice none 0 0] 47)).alloc (Obj.cells #[Value.bool false] 4)).setCell ⟨w.heap.size,0,none⟩ (.int .i64 0)).setCell ⟨w.heap.size,1,none⟩ (.int .i64 0)).setCell ⟨w.heap.size,2,none⟩ (.slice none 0 0)).setCell ⟨w.heap.size+1,0,none⟩ (.bool false))):=⟨.inr ⟨fun h=>h256 h.len,rfl⟩,(((hw.setCell (by simp) _).setCell (by simp) _).setCell (by simp) _).setCell (by simp) _⟩
  obtain ⟨c0,c1,c2,f0,f1,f2,pl⟩:=id hP
  clear hb hS hw0 hsz
  go_enter_defers Tryz.func140,Tryz.ntmps140
  go_wp2
  generalize (w.alloc (Obj.cells #[Value.int IntKind.i64 0,Value.int IntKind.i64 0,Value.slice none 0 0] 47)).alloc (Obj.cells #[Value.bool false] 4)=W at *
  refine leaves_cons (f:=171) (args:=#[.pointer (some ⟨w.heap.size,0,none⟩),.pointer (some ⟨w.heap.size+1,0,none⟩)]) (by simp) (by simp [go_sem]) ?_
  refine (catchP_panicking w.heap.size (w.heap.size+1) _ _ _ _ T x [] W hP q0 q1 (by omega)).mono ?_
  rintro e u' w'' ⟨rfl,rfl,rfl⟩
  simp [Leaves,settle,results,Tryz.results140,go_sem,c0,c1,c2,q0]
  exact HF.out
 ·obtain ⟨b,o,rfl,hbl,hz⟩:=hb.2 (by omega)
  have key:∀ (W:World) (v:Value) (T:TypeId),(W.alloc (Obj.cells #[v] T)).cell? ⟨W.heap.size,0,none⟩=some v∧(W.alloc (Obj.cells #[v] T)).frozen? ⟨W.heap.size,0,none⟩=false:=fun W v T=>⟨by simp,by simp⟩
  have k2:=key ((w.alloc (Obj.cells #[Value.int IntKind.i64 0,Value.int IntKind.i64 0,Value.slice none 0 0] 47)).alloc (Obj.cells #[Value.bool false] 4)) (Value.slice (some ⟨b,o,none⟩) 256 cap) 220
  rw [hsz] at k2
  have hR:PrR (((w.alloc (Obj.cells #[Value.int IntKind.i64 0,Value.int IntKind.i64 0,Value.slice none 0 0] 47)).alloc (Obj.cells #[Value.bool false] 4)).alloc (Obj.cells #[Value.slice (some ⟨b,o,none⟩) 256 cap] 220)) (w.heap.size+1+1) b o zs.length cap 0:=⟨⟨o,by rw [h256];exact k2.1,fun _=>rfl⟩,k2.2,by simp,Nat.zero_le _,hc⟩
  have hw2:Below w.heap.size w (((w.alloc (Obj.cells #[Value.int IntKind.i64 0,Value.int IntKind.i64 0,Value.slice none 0 0] 47)).alloc (Obj.cells #[Value.bool false] 4)).alloc (Obj.cells #[Value.slice (some ⟨b,o,none⟩) 256 cap] 220)):=hw.alloc (by simp;omega) _
  have hB:PrB (((w.alloc (Obj.cells #[Value.int IntKind.i64 0,Value.int IntKind.i64 0,Value.slice none 0 0] 47)).alloc (Obj.cells #[Value.bool false] 4)).alloc (Obj.cells #[Value.slice (some ⟨b,o,none⟩) 256 cap] 220)) (w.heap.size+1+1) b o zs:=⟨fun i hi=>keep hw2 hbl (hz i hi),hb.1,by omega,by have:=hw2.size;omega⟩
  have H1:=pack_any f hf (w.heap.size+1+1) b o cap zs w _ hR hB h256 hc2 hS hw2 (by omega)
  have hP2:=hP.alloc (Obj.cells #[Value.slice (some ⟨b,o,none⟩) 256 cap] 220)
  have q02:=keepA (Obj.cells #[Value.slice (some ⟨b,o,none⟩) 256 cap] 220) (by simp) q0
  have q12:(((w.alloc (Obj.cells #[Value.int IntKind.i64 0,Value.int IntKind.i64 0,Value.slice none 0 0] 47)).alloc (Obj.cells #[Value.bool false] 4)).alloc (Obj.cells #[Value.slice (some ⟨b,o,none⟩) 256 cap] 220)).frozen? ⟨w.heap.size+1,0,none⟩=false:=(((Below.refl _ _).alloc (Nat.le_refl _) _).frozen (p:=⟨w.heap.size+1,0,none⟩) (by simp)).trans q1
  have HW2:Hid (Below w.heap.size w (((w.alloc (Obj.cells #[Value.int IntKind.i64 0,Value.int IntKind.i64 0,Value.slice none 0 0] 47)).alloc (Obj.cells #[Value.bool false] 4)).alloc (Obj.cells #[Value.slice (some ⟨b,o,none⟩) 256 cap] 220))∧(((w.alloc (Obj.cells #[Value.int IntKind.i64 0,Value.int IntKind.i64 0,Value.slice none 0 0] 47)).alloc (Obj.cells #[Value.bool false] 4)).alloc (Obj.cells #[Value.slice (some ⟨b,o,none⟩) 256 cap] 220)).heap.size=w.heap.size+1+1+1):=⟨hw2,by simp⟩
  clear hb hS hw0 hsz hw hR hB hw2 hP q0 q1 hz key k2
  go_enter_defers Tryz.func140,Tryz.ntmps140
  go_wp2_with fail
  generalize ((w.alloc (Obj.cells #[Value.int IntKind.i64 0,Value.int IntKind.i64 0,Value.slice none 0 0] 47)).alloc (Obj.cells #[Value.bool false] 4)).alloc (Obj.cells #[Value.slice (some ⟨b,o,none⟩) 256 cap] 220)=W at *
  refine H1.mono ?_
  clear H1
  rintro e w1 ⟨h1,ho1⟩
  have hP3:=hP2.only ho1 (by omega)
  have q03:=ho1.cell (by have:=HW2.out.2;omega) (by omega) q02
  have q13:=(frozO ho1 (b:=w.heap.size+1) (o:=0) (by have:=HW2.out.2;omega) (by omega)).trans q12
  have hbw:Below w.heap.size w w1:=HW2.out.1.trans (ho1.below HW2.out.1.size (fun k hk=>by omega))
  obtain ⟨c0,c1,c2,f0,f1,f2,pl⟩:=id hP3
  have HSZ:Hid (W.heap.size=w.heap.size+1+1+1∧W.heap.size≤w1.heap.size):=⟨HW2.out.2,ho1.size⟩
  clear ho1 hP2 q02 q12 HW2
  rcases h1 with ⟨hG,v,fs,rfl,hcop⟩ | ⟨hG,T,x,rfl⟩
  rotate_left 1
  ·have HF:Hid (PrA f zs w (.returned (.tuple #[.agg #[.int .i64 0,.int .i64 0,.slice none 0 0],.bool false])) ((((w1.setCell ⟨w.heap.size,0,none⟩ (.int .i64 0)).setCell ⟨w.heap.size,1,none⟩ (.int .i64 0)).setCell ⟨w.heap.size,2,none⟩ (.slice none 0 0)).setCell ⟨w.heap.size+1,0,none⟩ (.bool false))):=⟨.inr ⟨hG,rfl⟩,(((hbw.setCell (by simp) _).setCell (by simp) _).setCell (by simp) _).setCell (by simp) _⟩
   clear hbw
   go_wp2
   refine leaves_cons (f:=171) (args:=#[.pointer (some ⟨w.heap.size,0,none⟩),.pointer (some ⟨w.heap.size+1,0,none⟩)]) (by simp) (by simp [go_sem]) ?_
   refine (catchP_panicking w.heap.size (w.heap.size+1) _ _ _ _ T x [] w1 hP3 q03 q13 (by omega)).mono ?_
   rintro e u' w'' ⟨rfl,rfl,rfl⟩
   simp [Leaves,settle,results,Tryz.results140,go_sem,c0,c1,c2,q03]
   exact HF.out
  ·obtain ⟨va,vc,rfl⟩:=hcop.row.form
   obtain ⟨E,hE⟩:∃ y,rpE zs=y:=⟨_,rfl⟩
   obtain ⟨O,hO⟩:∃ y,rpO zs=y:=⟨_,rfl⟩
   have hon:Only (fun k=>k=w.heap.size∨k=w.heap.size+1) w1 ((((w1.setCell ⟨w.heap.size,0,none⟩ (.int .i64 E)).setCell ⟨w.heap.size,1,none⟩ (.int .i64 O)).setCell ⟨w.heap.size,2,none⟩ (.slice va fs.length vc)).setCell ⟨w.heap.size+1,0,none⟩ (.bool true)):=
    ((((Only.refl _ w1).setCell (p:=⟨w.heap.size,0,none⟩) (.inl (.inl rfl)) _).setCell (p:=⟨w.heap.size,1,none⟩) (.inl (.inl rfl)) _).setCell (p:=⟨w.heap.size,2,none⟩) (.inl (.inl rfl)) _).setCell (p:=⟨w.heap.size+1,0,none⟩) (.inl (.inr rfl)) _
   have HF:Hid (PrA f zs w (.returned (.tuple #[.agg #[.int .i64 E,.int .i64 O,.slice va fs.length vc],.bool true])) ((((w1.setCell ⟨w.heap.size,0,none⟩ (.int .i64 E)).setCell ⟨w.heap.size,1,none⟩ (.int .i64 O)).setCell ⟨w.heap.size,2,none⟩ (.slice va fs.length vc)).setCell ⟨w.heap.size+1,0,none⟩ (.bool true))):=
    ⟨.inl ⟨hG,.slice va fs.length vc,fs,by rw [hE,hO],(hcop.stay hon (fun k hk e=>by have:=HSZ.out;omega)).weak (by have:=HSZ.out;omega)⟩,hbw.trans (hon.below hbw.size (fun k hk=>by omega))⟩
   rw [hE,hO]
   clear hbw hon hcop hG hE hO
   go_wp2
   refine leaves_cons (f:=171) (args:=#[.pointer (some ⟨w.heap.size,0,none⟩),.pointer (some ⟨w.heap.size+1,0,none⟩)]) (by simp) (by simp [go_sem]) ?_
   refine (catchP_idle w.heap.size (w.heap.size+1) _).mono ?_
   rintro e u' w'' ⟨rfl,rfl,rfl⟩
   simp [Leaves,settle,results,Tryz.results140,go_sem,c0,c1,c2,q03]
   exact HF.out
end Go.Proofs.YthngimdjjmhboaaGreatDoor
