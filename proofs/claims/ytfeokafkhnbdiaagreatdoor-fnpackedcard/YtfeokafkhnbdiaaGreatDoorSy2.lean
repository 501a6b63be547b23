/- Lemmas on the way. -/
import Derived.Test.YtfeokafkhnbdiaaGreatDoorSome1
import Derived.Test.YtfeokafkhnbdiaaGreatDoorPcB
import Derived.Test.YtfeokafkhnbdiaaGreatDoorEnF
import Derived.Test.YtfeokafkhnbdiaaGreatDoorHPut2M
import Derived.Test.YtfeokafkhnbdiaaGreatDoorLzP
import Derived.Test.YtfeokafkhnbdiaaGreatDoorPut1
import Derived.Test.YtfeokafkhnbdiaaGreatDoorSqEq
namespace Go.Proofs.YtfeokafkhnbdiaaGreatDoor
open Go.RowKit
set_option linter.unusedVariables false
def RD (w:World) (B R:Nat) (a:Option Addr) (L cap n p:Nat):Prop:=w.heap[R]?=some (.cells #[.slice a L cap,.int .i64 n,.int .i64 p] 109 (0,0))∧B≤R∧B≤w.heap.size
theorem cellRR {w:World} {R j:Nat} {cur:Array Value} {T:TypeId} {v:Value} (hR:w.heap[R]?=some (.cells cur T (0,0))) (hv:cur[j]?=some v):w.cell? ⟨R,j,none⟩=some v:=by
 rw [cell_of_row w R j cur T (0,0) hR];exact hv
theorem RD.frz {w:World} {B R:Nat} {a:Option Addr} {L cap n p:Nat} (h:RD w B R a L cap n p) (j:Nat):w.frozen? ⟨R,j,none⟩=false:=frozen_of_row w R j _ _ h.1
theorem RD.yes {w:World} {B R:Nat} {a:Option Addr} {zs:List Int} {cap n p:Nat} (h:RD w B R a zs.length cap n p) (v:Nat) (width:Int) (hn:n≤4104) (hb:Byt w a zs) (hz:zs=enc n v) (k1:0≤width) (k2:width≤30) (k4:(p:Int)≤(n:Int)-width) :
  Calls Tryz.prog 93 #[.pointer (some ⟨R,0,none⟩),.int .i64 width] w fun e w'=>
   e=.returned (.tuple #[.int .i64 (v / 2 ^ p % 2 ^ width.toNat:Nat),.nilIface])∧RD w' B R a zs.length cap n (p+width.toNat)∧Only (fun k=>k=R) w w'∧Below B w w':=by
 refine (get_yes R a cap zs n v p width w hn hb hz (cellRR (j:=0) h.1 rfl) (cellRR (j:=1) h.1 rfl) (cellRR (j:=2) h.1 rfl) (h.frz 2) k1 k2 (by omega) k4).mono ?_
 rintro e w' ⟨rfl,m,rfl⟩
 have hR:(w.drewN m).heap[R]?=some (.cells #[.slice a zs.length cap,.int .i64 n,.int .i64 p] 109 (0,0)):=h.1
 have hO:Only (fun k=>k=R) w ((w.drewN m).setCell ⟨R,2,none⟩ (.int .i64 ((p:Int)+width))):=by
  have h0:Only (fun k=>k=R) w (w.drewN m):=Only.ofBelow (S:=fun k=>k=R) (B:=w.heap.size) ⟨rfl,rfl,rfl,Nat.le_refl _,fun _ _=>rfl⟩ nl
  exact Only.setCell h0 (p:=⟨R,2,none⟩) (.inl rfl) _
 refine ⟨by simp,⟨?_,h.2.1,Nat.le_trans h.2.2 hO.size⟩,hO,hO.below h.2.2 (fun k hk=>by rw [hk];exact h.2.1)⟩
 rw [heap_setCell_same _ R 2 _ _ _ hR]
 have e:((p:Int)+width)=((p+width.toNat:Nat):Int):=by omega
 rw [e]
 simp
theorem RD.no {w:World} {B R:Nat} {a:Option Addr} {zs:List Int} {cap n p:Nat} (h:RD w B R a zs.length cap n p) (width:Int) (hn:n≤4104) (hp:p≤4104) (s0:Sent w 5) (s2:Sent w 11) (k4:width<0∨30<width∨(n:Int)-width<p) :
  Calls Tryz.prog 93 #[.pointer (some ⟨R,0,none⟩),.int .i64 width] w fun e w'=>(∃ T x,e=.returned (.tuple #[.int .i64 0,.iface T x]))∧∃ m,w'=w.drewN m:=
 get_no R a cap zs n p width w hn (by omega) (cellRR (j:=0) h.1 rfl) (cellRR (j:=1) h.1 rfl) (cellRR (j:=2) h.1 rfl) s0 s2 (by omega)
theorem RD.only {w w':World} {B R:Nat} {a:Option Addr} {L cap n p:Nat} {S:Nat→Prop} (h:RD w B R a L cap n p) (ho:Only S w w') (hs:¬S R):RD w' B R a L cap n p:=
 ⟨(ho.block R (Array.getElem?_eq_some_iff.1 h.1).1 hs).trans h.1,h.2.1,Nat.le_trans h.2.2 ho.size⟩
set_option linter.unusedSimpArgs false
def KeepT (R:Nat) (w w':World):Prop:=∀ (g:Nat) (cur:Array Value) (T:TypeId),w.heap[g]?=some (.cells cur T (0,0))→T≠5→g≠R→w'.heap[g]?=some (.cells cur T (0,0))
theorem WI.putK {w:World} {B R n V:Nat} (h:WI w B R n V) (x width:Nat) (h2:width≤30) (hxw:x<2 ^ width) (h3:n+width≤4096) :
  Calls Tryz.prog 79 #[.pointer (some ⟨R,0,none⟩),.int .i64 (x:Int),.int .i64 (width:Int)] w fun e w'=>e=.returned .nilIface∧WI w' B R (n+width) (V+x*2 ^ n)∧Below B w w'∧KeepT R w w':=by
 obtain ⟨v,hR,hv,hV,hBR,hB⟩:=h
 have hxi:(x:Int)<2 ^ ((width:Int)).toNat:=by
  have e:((2:Int) ^ width)=((2 ^ width:Nat):Int):=by simp
  rw [Int.toNat_natCast,e]
  exact Int.ofNat_lt.2 hxw
 refine (wput_yes R B v n V x width 4096 w hR hv hV hB (by omega) (by omega) (by omega) hxi (by omega) (by omega) (by omega)).mono ?_
 rintro e w' ⟨rfl,v',hR',hv',ho,_⟩
 have hb:Below B w w':=ho.below hB (fun k hk=>by
  rcases hk with hk | hk
  ·omega
  ·exact hv.blk hk)
 simp only [Int.toNat_natCast] at hR' hv'
 refine ⟨rfl,⟨v',hR',hv',put_lt n V width x hV hxw,hBR,Nat.le_trans hB hb.size⟩,hb,fun g cur T hg hT hgR=>?_⟩
 refine (ho.block g (Array.getElem?_eq_some_iff.1 hg).1 ?_).trans hg
 rintro (hk | hk)
 ·exact hgR hk
 ·exact hv.neP hk hg hT rfl
theorem OVI.keepT {R:Nat} {w w':World} {B:Nat} {v:Value} {zs:List Int} (h:OVI w B v zs) (hk:KeepT R w w') (hR:v.ownBlock≠some R):OVI w' B v zs:=by
 refine ⟨⟨h.1.1,?_⟩,h.2⟩
 rcases h.1.2 with h' | ⟨g,cap,cur,h',hg,hh,r⟩
 ·exact .inl h'
 ·exact .inr ⟨g,cap,cur,h',hg,hk g cur _ hh (by decide) (fun e=>hR (by rw [h',←e];rfl)),r⟩
theorem OVI.setOther {w:World} {B:Nat} {v:Value} {zs:List Int} (h:OVI w B v zs) {P:Nat} {cur:Array Value} {T:TypeId} (hP:w.heap[P]?=some (.cells cur T (0,0))) (hT:T≠3) (j:Nat) (x:Value):OVI (w.setCell ⟨P,j,none⟩ x) B v zs:=by
 have ho:Only (fun b=>b=P) w (w.setCell ⟨P,j,none⟩ x):=Only.setCell (Only.refl (fun b=>b=P) w) (p:=⟨P,j,none⟩) (.inl rfl) _
 refine ⟨⟨h.1.1,?_⟩,h.2⟩
 rcases h.1.2 with h' | ⟨g,cap,cur',h',hg,hh,r⟩
 ·exact .inl h'
 ·refine .inr ⟨g,cap,cur',h',hg,(ho.block g (Array.getElem?_eq_some_iff.1 hh).1 (fun e=>?_)).trans hh,r⟩
  subst e
  rw [hP] at hh
  simp at hh
  exact hT hh.2
structure SyS (w:World) (B P R:Nat) (st:SyT):Prop where
 box:∃ a c,w.heap[P]?=some (.cells #[.slice a st.1.length c] 38 (0,0))∧OVI w B (.slice a st.1.length c) st.1
 si:SI w B R st.2.1 st.2.2
 BP:B≤P
theorem wpowS (k:Nat) (h:k≤12):wrap64 (2 ^ k)=((2 ^ k:Nat):Int):=by
 have h2:2 ^ k≤2 ^ 12:=Nat.pow_le_pow_right (by omega) h
 have e:((2:Int) ^ k)=((2 ^ k:Nat):Int):=by simp
 rw [e]
 generalize 2 ^ k=P at *
 exact IntWalk.wrap64_in _ (by omega)
structure SyOk (ss:List Sq):Prop where
 few:ss.length≤40
 lets:lets ss≤64
 nums:∀ j,j<ss.length→(ss.getD j dq).n=0∨(3≤(ss.getD j dq).n∧(ss.getD j dq).n≤64∧1≤(ss.getD j dq).d∧(ss.getD j dq).d≤64)
theorem SyOk.of {ss:List Sq} (h:(sqn ss).isSome=true):SyOk ss:=⟨(sqn_lets h).1,(sqn_lets h).2.1,(sqn_lets h).2.2⟩
theorem SyOk.bnd {ss:List Sq} (h:SyOk ss) (k:Nat) (hk:k<ss.length):(syOf (ss.take k)).1.length+(ss.getD k dq).ls.length≤200∧(syOf (ss.take k)).2.1+4*(ss.getD k dq).ls.length≤1000:=by
 have h1:=syOf_len h.nums k (by omega)
 have h2:=lets_take_succ ss k hk
 have h3:=lets_take_le ss (k+1)
 have h4:=h.lets
 have h5:=h.few
 omega
theorem rowWeak {w:World} {B B':Nat} {T:TypeId} {sz:Nat} {v:Value} {n:Nat} {xs:List Value} (h:w.ownsRow B T sz v n xs) (hB:B'≤B):w.ownsRow B' T sz v n xs:=by
 refine ⟨h.1,?_⟩
 rcases h.2 with h' | ⟨g,cap,cur,h',hg,r⟩
 ·exact .inl h'
 ·exact .inr ⟨g,cap,cur,h',by omega,r⟩
theorem ownV_weakS {S:Nat→Prop} {w w':World} {B B':Nat} {v:Value} {zs:List Int} (h:OwnV w B v zs) (ho:Only S w w') (hs:∀ k,B≤k→¬S k) (hB:B'≤B):OwnV w' B' v zs:=
 ⟨rowWeak (rowStay h.1 ho (fun k hk=>hs k (h.blk hk))) hB,h.2⟩
theorem ovi_weakS {S:Nat→Prop} {w w':World} {B B':Nat} {v:Value} {zs:List Int} (h:OVI w B v zs) (ho:Only S w w') (hs:∀ k,B≤k→¬S k) (hB:B'≤B):OVI w' B' v zs:=
 ⟨rowWeak (rowStay h.1 ho (fun k hk=>hs k (h.blk hk))) hB,h.2⟩
end Go.Proofs.YtfeokafkhnbdiaaGreatDoor
