/-
  PackFind, both.
-/
import Derived.Test.YthngimdjjmhboaaGreatDoorMpM
namespace Go.Proofs.YthngimdjjmhboaaGreatDoor
open Go.RowKit
set_option linter.unusedVariables false
set_option linter.unusedSimpArgs false

def PfP (f:List Int→Option (List Int)) (E O:Int) (es:List El) (x t:Int):Prop:=(PkR f E O es∧FndP es x t)∨(¬PkR f E O es∧t=-1)
set_option maxHeartbeats 1000000 in
theorem packFind1_any (P:Nat) (n x:Int) (a:Option Addr) (l c:Nat) (w:World) (hP:w.cell? ⟨P,0,none⟩=some (.int .i64 x)) (hl:P<w.heap.size) :
  Calls Tryz.prog 135 #[.agg #[.int .i64 n,.slice a l c],.pointer (some ⟨P,0,none⟩)] w fun r w'=>r=.returned (.bool (n == x))∧Below w.heap.size w w':=by
 have q:(w.alloc (Obj.cells #[Value.int IntKind.i64 n,Value.slice a l c] 113)).cell? ⟨P,0,none⟩=some (.int .i64 x):=keepA _ hl hP
 have hw:Below w.heap.size w (w.alloc (Obj.cells #[Value.int IntKind.i64 n,Value.slice a l c] 113)):=(Below.refl _ _).alloc (Nat.le_refl _) _
 go_enter Tryz.func135,Tryz.ntmps135
 go_wp2
 go_ret
 exact ⟨rfl,hw⟩

set_option maxRecDepth 20000 in
set_option maxHeartbeats 2000000 in
theorem indexItem_any (P:Nat) (x:Int) (a:Option Addr) (cap:Nat) (es:List El) (w:World) (hb:Els true w a es) (hn:es.length≤1048576) (hP:w.cell? ⟨P,0,none⟩=some (.int .i64 x)) (hl:P<w.heap.size) :
  Calls Tryz.prog 134 #[.slice a es.length cap,.func (.func 135) #[] #[.pointer (some ⟨P,0,none⟩)]] w fun r w'=>(∃ z,r=.returned (.int .i64 z)∧FndP es x z)∧Below w.heap.size w w':=by
 have HB:Hid (Els true w a es∧w.cell? ⟨P,0,none⟩=some (.int .i64 x)):=⟨hb,hP⟩
 have HY:Hid (∀ k:Nat,k<es.length→(es.getD k de).n=x→(∀ j,j<k→(es.getD j de).n≠x)→FndP es x k):=fun k h1 h2 h3=>.inl ⟨k,h1,rfl,h2,h3⟩
 have HN:Hid ((∀ j,j<es.length→(es.getD j de).n≠x)→FndP es x (-1)):=fun h=>.inr ⟨rfl,h⟩
 clear hb hP
 generalize hlen:es.length=n at *
 have HL:Hid (es.length=n∧True):=⟨hlen,trivial⟩
 clear hlen
 go_enter Tryz.func134,Tryz.ntmps134
 go_wp2
 go_loopw [8] (fun i wr=>∃ k:Nat,k≤n∧i=.int .i64 k∧(∀ j,j<k→(es.getD j de).n≠x)∧Below w.heap.size w wr) (fun i _=>n - (intOf i).toNat)
 case atStart=>exact ⟨0,Nat.zero_le _,rfl,fun j hj=>by omega,Below.refl _ _⟩
 case round=>
  obtain ⟨k,hk,rfl,hal,hbel⟩:=hrel
  have HAL:Hid (∀ j,j<k→(es.getD j de).n≠x):=hal
  clear hal
  by_cases hlt:k<n
  ·obtain ⟨b,off,rfl,hb1,c0,c1,hby,hrg⟩:=(HB.out.1.below hbel (Nat.le_refl _)).pen k (by rw [HL.out.1];exact hlt)
   generalize hs:es.getD k de=s at *
   obtain ⟨sn,sa,sc,sl⟩:=s
   simp only at c0 c1
   have HSN:Hid ((es.getD k de).n=sn∧True):=⟨by rw [hs],trivial⟩
   have HCL:=packFind1_any P sn x sa sl.length sc wr (keep hbel hl HB.out.2) (by have:=hbel.size;omega)
   clear hby hrg hs
   go_wp2_with fail
   refine HCL.mono ?_
   clear HCL
   rintro e w1 ⟨rfl,hb1'⟩
   have HB1:Hid (Below w.heap.size w w1):=hbel.trans (hb1'.mono hbel.size)
   clear hb1' hbel c0 c1 hb1
   by_cases hx:sn=x
   ·have hx2:(sn == x)=true:=by simpa using hx
    rw [hx2]
    have HF:Hid (FndP es x k):=HY.out k hlt (by rw [HSN.out.1];exact hx) HAL.out
    clear hx hx2
    go_wp2
    go_ret
    exact ⟨⟨_,rfl,HF.out⟩,HB1.out⟩
   ·have hx2:(sn == x)=false:=by simpa using hx
    rw [hx2]
    have HF:Hid (∀ j,j<k+1→(es.getD j de).n≠x):=by
     intro j hj
     by_cases e:j=k
     ·rw [e,HSN.out.1];exact hx
     ·exact HAL.out j (by omega)
    clear hx hx2
    go_wp2
    go_roundw
    case rel=>exact ⟨k+1,by omega,by go_num,HF.out,HB1.out⟩
    case measure=>simp [intOf];omega
  ·have hkn:k=n:=by omega
   subst hkn
   have HF:Hid (FndP es x (-1)):=HN.out HAL.out
   go_wp2
   go_ret
   exact ⟨⟨_,rfl,HF.out⟩,hbel⟩

set_option maxRecDepth 20000 in
set_option maxHeartbeats 1000000 in
theorem implPackFind_any (f:List Int→Option (List Int)) (hf:DecF f) (E O x:Int) (a:Option Addr) (cap:Nat) (es:List El) (w:World) (hb:ItI w a es) (hx:FewJ es) (hS:SentB w) :
  Calls Tryz.prog 94 #[.agg #[.int .i64 E,.int .i64 O,.slice a es.length cap],.int .i64 x] w fun r w'=>(∃ t,r=.returned (.int .i64 t)∧PfP f E O es x t)∧Below w.heap.size w w':=by
 have hw0:Below w.heap.size w (w.alloc (Obj.cells #[Value.int IntKind.i64 E,Value.int IntKind.i64 O,Value.slice a es.length cap] 47)):=(Below.refl _ _).alloc (Nat.le_refl _) _
 have hw:Below w.heap.size w ((w.alloc (Obj.cells #[Value.int IntKind.i64 E,Value.int IntKind.i64 O,Value.slice a es.length cap] 47)).alloc (Obj.cells #[Value.int IntKind.i64 x] 3)):=hw0.alloc (by simp) _
 have hbx:=(Box3.new w (.int .i64 E) (.int .i64 O) (.slice a es.length cap) 47).alloc (Obj.cells #[Value.int IntKind.i64 x] 3)
 have hcx:((w.alloc (Obj.cells #[Value.int IntKind.i64 E,Value.int IntKind.i64 O,Value.slice a es.length cap] 47)).alloc (Obj.cells #[Value.int IntKind.i64 x] 3)).cell? ⟨w.heap.size+1,0,none⟩=some (.int .i64 x):=by simp
 have hlx:w.heap.size+1<((w.alloc (Obj.cells #[Value.int IntKind.i64 E,Value.int IntKind.i64 O,Value.slice a es.length cap] 47)).alloc (Obj.cells #[Value.int IntKind.i64 x] 3)).heap.size:=by simp
 have HOK:=implPackOk_any f hf E O a cap es _ (hb.below hw (Nat.le_refl _)) hx (hS.below hw)
 have HB:Hid (ItI w a es∧FewJ es):=⟨hb,hx⟩
 clear hb hx hw0
 go_enter Tryz.func94,Tryz.ntmps94
 go_wp2_with fail
 generalize (w.alloc (Obj.cells #[Value.int IntKind.i64 E,Value.int IntKind.i64 O,Value.slice a es.length cap] 47)).alloc (Obj.cells #[Value.int IntKind.i64 x] 3)=W0 at *
 refine HOK.mono ?_
 clear HOK
 rintro e w1 ⟨⟨hp,rfl⟩ | ⟨hp,rfl⟩,hb1⟩
 ·have HW1:Hid (Below w.heap.size w w1∧PkR f E O es):=⟨hw.trans (hb1.mono hw.size),hp⟩
  obtain ⟨p0,p1,p2,-,-,-,pl⟩:=hbx.step hb1
  have HSZ:=indexItem_any (w.heap.size+1) x a cap es w1 (HB.out.1.els.below HW1.out.1 (Nat.le_refl _)) HB.out.2.n (keep hb1 hlx hcx) (by have:=hb1.size;omega)
  clear hb1 hp hbx hcx hlx
  go_wp2_with fail
  refine HSZ.mono ?_
  clear HSZ
  rintro e w2 ⟨⟨z,rfl,hz⟩,hb2⟩
  have HW2:Hid (Below w.heap.size w w2∧FndP es x z):=⟨HW1.out.1.trans (hb2.mono HW1.out.1.size),hz⟩
  clear hb2 hz
  go_wp2
  go_ret
  exact ⟨⟨_,rfl,.inl ⟨HW1.out.2,HW2.out.2⟩⟩,HW2.out.1⟩
 ·have HW1:Hid (Below w.heap.size w w1∧¬PkR f E O es):=⟨hw.trans (hb1.mono hw.size),hp⟩
  clear hb1 hp hbx hcx hlx
  go_wp2
  go_ret
  exact ⟨⟨_,rfl,.inr ⟨HW1.out.2,rfl⟩⟩,HW1.out.1⟩
end Go.Proofs.YthngimdjjmhboaaGreatDoor
