/-
  The queue of what waits: queueOf, waits, last.
-/
import Derived.Test.YthngimdjjmhboaaGreatDoorRdW
namespace Go.Proofs.YthngimdjjmhboaaGreatDoor
open Go.RowKit
set_option linter.unusedVariables false

structure Que (W:World) (B Q:Nat) (v:Value) (es:List El):Prop where
 box:Box2 W Q v (.int .i64 60)
 hQ:B≤Q
 row:OVr true W B v es
 ne:¬v.ownBlock=some Q

set_option maxHeartbeats 800000 in
theorem queueOf_any (a:Option Addr) (cap:Nat) (es:List El) (w:World) (hb:Els true w a es) (hn:es.length≤1000000) :
  Calls Tryz.prog 173 #[.slice a es.length cap,.int .i64 60] w fun e w'=>(∃ Q v,e=.returned (.pointer (some ⟨Q,0,none⟩))∧Que w' w.heap.size Q v es)∧Below w.heap.size w w':=by
 go_enter Tryz.func173,Tryz.ntmps173
 go_wp2_with fail
 refine (clonePend_any a cap es w hb hn).mono ?_
 rintro e w1 ⟨⟨v,rfl,hov⟩,hb1⟩
 obtain ⟨va,vc,rfl⟩:=hov.form
 have HB2:Hid (Below w.heap.size w (w1.alloc (Obj.cells #[.slice va es.length vc,.int .i64 60] 235))):=hb1.alloc hb1.size _
 have HQ:Hid (Que (w1.alloc (Obj.cells #[.slice va es.length vc,.int .i64 60] 235)) w.heap.size w1.heap.size (.slice va es.length vc) es):=⟨Box2.new _ _ _ _,hb1.size,hov.below ((Below.refl _ _).alloc (Nat.le_refl _) _),fun he=>by have:=(hov.blk he).2;omega⟩
 clear hov hb1
 go_wp2
 go_ret
 exact ⟨⟨_,_,rfl,HQ.out⟩,HB2.out⟩

set_option maxHeartbeats 800000 in
theorem waits_any (sa pa:Option Addr) (sc pc n:Nat) (es:List El) (w:World) (hb:Els true w pa es) (hn:es.length≤1000000) :
  Calls Tryz.prog 147 #[.agg #[.slice sa n sc,.slice pa es.length pc]] w fun e w'=>(∃ Q v,e=.returned (.pointer (some ⟨Q,0,none⟩))∧Que w' w.heap.size Q v es)∧Below w.heap.size w w':=by
 have HW:Hid (Below w.heap.size w (w.alloc (Obj.cells #[Value.slice sa n sc,Value.slice pa es.length pc] 41))):=(Below.refl _ _).alloc (Nat.le_refl _) _
 go_enter Tryz.func147,Tryz.ntmps147
 go_wp2_with fail
 refine (queueOf_any pa pc es _ (hb.below HW.out (Nat.le_refl _)) hn).mono ?_
 rintro e w1 ⟨⟨Q,v,rfl,hq⟩,hb1⟩
 have HB1:Hid (Below w.heap.size w w1):=HW.out.trans (hb1.mono HW.out.size)
 have HQ:Hid (Que w1 w.heap.size Q v es):=⟨hq.box,by have:=hq.hQ;simp at this;omega,hq.row.weak (by simp),hq.ne⟩
 clear hq hb1
 go_wp2
 go_ret
 exact ⟨⟨_,_,rfl,HQ.out⟩,HB1.out⟩

set_option maxHeartbeats 800000 in
theorem fits_any (n:Int) (a:Option Addr) (L c P:Nat) (x:Int) (w:World) (hP:w.cell? ⟨P,0,none⟩=some (.int .i64 x)) :
  Calls Tryz.prog 169 #[.agg #[.int .i64 n,.slice a L c],.pointer (some ⟨P,0,none⟩)] w fun e w'=>e=.returned (.bool (decide (n=x)))∧Below w.heap.size w w':=by
 have HW:Hid (Below w.heap.size w (w.alloc (Obj.cells #[Value.int .i64 n,Value.slice a L c] 141))):=(Below.refl _ _).alloc (Nat.le_refl _) _
 have hlt:=World.block_lt_of_cell? _ _ hP
 have hp:=keepA (Obj.cells #[Value.int .i64 n,Value.slice a L c] 141) hlt hP
 by_cases h:n=x
 ·rw [decide_eq_true h]
  subst h
  have hxx:(n == n)=true:=by simp
  go_enter Tryz.func169,Tryz.ntmps169
  go_wp2
  go_ret
  exact ⟨rfl,HW.out⟩
 ·rw [decide_eq_false h]
  have hxx:(n == x)=false:=by rw [beq_eq_false_iff_ne];exact h
  clear h
  go_enter Tryz.func169,Tryz.ntmps169
  go_wp2
  go_ret
  exact ⟨rfl,HW.out⟩

set_option maxHeartbeats 1600000 in
theorem last_any (Q P:Nat) (va:Option Addr) (vc:Nat) (es:List El) (x:Int) (w:World) (hq:Box2 w Q (.slice va es.length vc) (.int .i64 60)) (hb:Els true w va es) (hP:w.cell? ⟨P,0,none⟩=some (.int .i64 x)) (hn:es.length≤1000000) :
  Calls Tryz.prog 168 #[.pointer (some ⟨Q,0,none⟩),.func (.func 169) #[] #[.pointer (some ⟨P,0,none⟩)]] w fun e w'=>
   (∃ n a c ls b,e=.returned (.tuple #[.agg #[.int .i64 n,.slice a (List.length ls) c],.bool b])∧((b=true∧lastU es x es.length=some ⟨n,a,c,ls⟩)∨(b=false∧lastU es x es.length=none)))∧Below w.heap.size w w':=by
 have HB:Hid (Els true w va es):=hb
 have HSU:Hid (∀ k,lastU es x (k+1)=if (es.getD k de).n=x then some (es.getD k de) else lastU es x k):=fun k=>rfl
 have HS0:Hid (lastU es x 0=none∧True):=⟨rfl,trivial⟩
 generalize hlen:es.length=m at *
 have HL:Hid (es.length=m∧True):=⟨hlen,trivial⟩
 clear hlen hb
 obtain ⟨q0,q1,-,-,ql⟩:=hq
 have hPl:=World.block_lt_of_cell? _ _ hP
 simp only at hPl
 go_enter Tryz.func168,Tryz.ntmps168
 go_wp2
 go_loopw [6] (fun i wr=>∃ k:Nat,k≤m∧i=.int .i64 ((k:Int) - 1)∧lastU es x m=lastU es x k∧Below (w.heap.size+1) (w.alloc (Obj.cells #[.int .i64 0,.slice none 0 0] 141)) wr) (fun i _=>(intOf i+1).toNat)
 case atStart=>exact ⟨m,Nat.le_refl _,rfl,rfl,Below.refl _ _⟩
 case round=>
  obtain ⟨k,hk,rfl,heq,hbel⟩:=hrel
  have HE:Hid (lastU es x m=lastU es x k∧True):=⟨heq,trivial⟩
  clear heq
  have hb0:Below w.heap.size w wr:=((Below.refl _ _).alloc (Nat.le_refl _) _).trans (hbel.mono (by omega))
  have r0:=keep hb0 ql q0
  have r1:=keep hb0 ql q1
  have rP:=keep hb0 hPl hP
  obtain ⟨t0,t1,g0,g1,tl⟩:=(Box2.new w (.int .i64 0) (.slice none 0 0) 141).keep hbel (by omega)
  have HBE:Hid (Below (w.heap.size+1) (w.alloc (Obj.cells #[.int .i64 0,.slice none 0 0] 141)) wr∧Below w.heap.size w wr∧Box2 wr w.heap.size (.int .i64 0) (.slice none 0 0)):=⟨hbel,hb0,⟨t0,t1,g0,g1,tl⟩⟩
  clear hbel
  by_cases hk0:0<k
  ·obtain ⟨j,rfl⟩:∃ j,k=j+1:=⟨k - 1,by omega⟩
   obtain ⟨b,off,rfl,hb1,c0,c1,-,-⟩:=(HB.out.below hb0 (Nat.le_refl _)).pen j (by rw [HL.out.1];omega)
   have hj1:((j+1:Nat):Int) - 1=(j:Int):=by omega
   rw [hj1]
   clear hj1
   have HS:=HSU.out j
   generalize es.getD j de=s at *
   obtain ⟨sn,a2,c2,sl⟩:=s
   simp only at c0 c1 HS
   have HFT:=fits_any sn a2 sl.length c2 P x wr rP
   clear hb0
   go_wp2_with fail
   refine HFT.mono ?_
   clear HFT
   rintro e w3 ⟨rfl,hb3⟩
   have hqw:Q<wr.heap.size:=World.block_lt_of_cell? _ _ r0
   have u0:=keep hb3 hqw r0
   have d0:=keep hb3 hb1 c0
   have d1:=keep hb3 hb1 c1
   have hb3':Below (w.heap.size+1) wr w3:=hb3.mono (by omega)
   have HB3:Hid (Below (w.heap.size+1) (w.alloc (Obj.cells #[.int .i64 0,.slice none 0 0] 141)) w3∧Below w.heap.size w w3):=⟨HBE.out.1.trans hb3',HBE.out.2.1.trans (hb3.mono HBE.out.2.1.size)⟩
   obtain ⟨v0,v1,k0,k1,vl⟩:=HBE.out.2.2.keep hb3 HBE.out.2.2.lt
   clear hb3 hb3' HBE r0 r1 rP t0 t1 g0 g1 c0 c1
   by_cases hs:sn=x
   ·rw [decide_eq_true hs]
    have HF:Hid (lastU es x m=some ⟨sn,a2,c2,sl⟩∧True):=by
     rw [if_pos hs] at HS
     exact ⟨HE.out.1.trans HS,trivial⟩
    clear HS hs
    have HBF:Hid (Below w.heap.size w ((w3.setCell ⟨w.heap.size,0,none⟩ (.int .i64 sn)).setCell ⟨w.heap.size,1,none⟩ (.slice a2 sl.length c2))):=(HB3.out.2.setCell (p:=⟨w.heap.size,0,none⟩) (Nat.le_refl _) _).setCell (p:=⟨w.heap.size,1,none⟩) (Nat.le_refl _) _
    go_wp2
    exact bodyPost_ret (v:=.tuple #[.agg #[.int .i64 sn,.slice a2 sl.length c2],.bool true]) (by simp [results,Tryz.results168,go_sem,v0,v1]) rfl ⟨⟨sn,a2,c2,sl,true,rfl,.inl ⟨rfl,HF.out.1⟩⟩,HBF.out⟩
   ·rw [decide_eq_false hs]
    have HE2:Hid (lastU es x m=lastU es x j∧True):=by
     rw [if_neg hs] at HS
     exact ⟨HE.out.1.trans HS,trivial⟩
    clear HS hs
    go_wp2
    go_roundw
    case rel=>exact ⟨j,by omega,rfl,HE2.out.1,HB3.out.1⟩
    case measure=>simp [intOf]
  ·obtain rfl:k=0:=by omega
   have HF:Hid (lastU es x m=none∧True):=⟨HE.out.1.trans HS0.out.1,trivial⟩
   have HBF:Hid (Below w.heap.size w (((wr.setCell ⟨w.heap.size,0,none⟩ (.int .i64 0)).setCell ⟨w.heap.size,1,none⟩ (.slice none 0 0)).alloc (Obj.cells #[.int .i64 0,.slice none 0 0] 141))):=((HBE.out.2.1.setCell (p:=⟨w.heap.size,0,none⟩) (Nat.le_refl _) _).setCell (p:=⟨w.heap.size,1,none⟩) (Nat.le_refl _) _).alloc (by simp;omega) _
   have HZ:=((HBE.out.2.2.set0 (.int .i64 0)).set1 (.slice none 0 0)).alloc (Obj.cells #[.int .i64 0,.slice none 0 0] 141)
   have HZ':Hid _:=HZ
   clear HZ
   clear hb0
   go_wp2
   exact bodyPost_ret (v:=.tuple #[.agg #[.int .i64 0,.slice none 0 0],.bool false]) (by simp [results,Tryz.results168,go_sem,HZ'.out.c0,HZ'.out.c1]) rfl ⟨⟨0,none,0,[],false,rfl,.inr ⟨rfl,HF.out.1⟩⟩,HBF.out⟩
end Go.Proofs.YthngimdjjmhboaaGreatDoor
