/- Lemmas on the way. -/
import Derived.Test.YtaibkchbkedjnaaGreatDoorElSz
import Derived.Test.YtaibkchbkedjnaaGreatDoorMkB
namespace Go.Proofs.YtaibkchbkedjnaaGreatDoor
open Go.RowKit
set_option linter.unusedVariables false
structure Snp (w W:World) (N U V Z:Nat) (PB PW PX PG:World→Prop):Prop where
 bel:Below w.heap.size w W
 ord:w.heap.size≤N∧N≤U∧U≤V∧V≤Z∧Z≤W.heap.size
 sb:Stab w.heap.size N PB
 hb:PB W
 sw:Stab N U PW
 hw:PW W
 sx:Stab U V PX
 hx:PX W
 sg:Stab V Z PG
 hg:PG W
section
variable {w W W' : World} {N U V Z : Nat} {PB PW PX PG : World → Prop}
theorem Snp.step (h:Snp w W N U V Z PB PW PX PG) (hb:Below W.heap.size W W'):Snp w W' N U V Z PB PW PX PG:=by
 have o:=h.ord;have hs:=hb.size
 have ho:Only (fun _=>False) W W':=Only.ofBelow hb nl
 exact ⟨h.bel.trans (hb.mono (by omega)),by omega,h.sb,h.sb _ _ _ h.hb ho (by simp) (by omega),h.sw,h.sw _ _ _ h.hw ho (by simp) (by omega),h.sx,h.sx _ _ _ h.hx ho (by simp) (by omega),h.sg,h.sg _ _ _ h.hg ho (by simp) (by omega)⟩
theorem Snp.drew (h:Snp w W N U V Z PB PW PX PG) (n:Nat):Snp w (W.drewN n) N U V Z PB PW PX PG:=h.step ⟨rfl,rfl,rfl,Nat.le_refl _,fun _ _=>rfl⟩
theorem Snp.markX {T:Nat→Prop} {PX':World→Prop} (h:Snp w W N U V Z PB PW PX PG) (ho:Only T W W') (hT:∀ k,T k→U≤k∧k<V) (sx:Stab U V PX') (hx:PX' W'):Snp w W' N U V Z PB PW PX' PG:=by
 have o:=h.ord;have hs:=ho.size
 have hbel:Below w.heap.size W W':=ho.below (by omega) (fun k hk=>by have:=hT k hk;omega)
 exact ⟨h.bel.trans hbel,by omega,h.sb,h.sb _ _ _ h.hb ho (fun k h1 h2 hk=>by have:=hT k hk;omega) (by omega),h.sw,h.sw _ _ _ h.hw ho (fun k h1 h2 hk=>by have:=hT k hk;omega) (by omega),sx,hx,h.sg,h.sg _ _ _ h.hg ho (fun k h1 h2 hk=>by have:=hT k hk;omega) (by omega)⟩
theorem Snp.markG {T:Nat→Prop} {PG':World→Prop} (h:Snp w W N U V Z PB PW PX PG) (ho:Only T W W') (hT:∀ k,T k→V≤k∧k<Z) (sg:Stab V Z PG') (hg:PG' W'):Snp w W' N U V Z PB PW PX PG':=by
 have o:=h.ord;have hs:=ho.size
 have hbel:Below w.heap.size W W':=ho.below (by omega) (fun k hk=>by have:=hT k hk;omega)
 exact ⟨h.bel.trans hbel,by omega,h.sb,h.sb _ _ _ h.hb ho (fun k h1 h2 hk=>by have:=hT k hk;omega) (by omega),h.sw,h.sw _ _ _ h.hw ho (fun k h1 h2 hk=>by have:=hT k hk;omega) (by omega),h.sx,h.sx _ _ _ h.hx ho (fun k h1 h2 hk=>by have:=hT k hk;omega) (by omega),sg,hg⟩
end
theorem MinI.rowT {W:World} {B D:Nat} {a:Option Addr} {c:Nat} {zs:List Int} (h:MinI W B D a c zs) {k:Nat} (hk:rowOf a k):B≤k∧k<D:=by
 obtain ⟨x,hx,rfl⟩:=hk
 rcases h with ⟨h',_⟩ | ⟨g,h',g1,g2,_⟩
 ·rw [h'] at hx;cases hx
 ·rw [h'] at hx
  simp at hx
  rw [←hx]
  exact ⟨g1,g2⟩
end Go.Proofs.YtaibkchbkedjnaaGreatDoor
