import Derived.Test.YtaibkchbkedjnaaGreatDoorVarsC
import Derived.Stop.LaidTwo
namespace Go.Proofs.YtaibkchbkedjnaaGreatDoor
open Go.ChangeShapes Go.WideShapes Go.ChangeAt Go.RowKit Go.Joins
set_option linter.unusedVariables false
theorem z1o {P:Program} {x y:String × DataW Unit} {r:List (String × DataW Unit)} {w:World} (h:laidMet P (x :: y :: r) w):laidMet P (x :: r) w:=by
 obtain ⟨ps,hv,hnd,hrows⟩:=h;obtain ⟨n,d⟩:=x;obtain ⟨m,e⟩:=y;obtain ⟨g,t,cs,fuel,p,q,h1,h2,h3,h4,⟨g',t',cs',fuel',p',q',_,_,_,_,hq,rfl⟩,rfl⟩:=hv;have hs:List.Sublist (MemPlace.row ⟨g,0,none⟩ cs.size++p++q') (MemPlace.row ⟨g,0,none⟩ cs.size++p++(MemPlace.row ⟨g',0,none⟩ cs'.size++p'++q')):=
  (List.Sublist.refl _).append (List.sublist_append_right _ _)
 exact ⟨_,⟨g,t,cs,fuel,p,q',h1,h2,h3,h4,hq,rfl⟩,hnd.sublist hs,fun b off hm=>hrows b off (hs.subset hm)⟩
theorem z2s {n0 n1:String} {text0 text1:List UInt8} {r:List (String × DataW Unit)} {W:World} {g0 g1:Nat} {p q:Addr}
  (h : laidMet Tryz.prog ((n0, .iface "*errors.errorString" (.ptr (.agg [.lit (.string text0)]))) :: (n1, .iface "*errors.errorString" (.ptr (.agg [.lit (.string text1)]))) :: r) W)
  (hg0:Tryz.prog.globalNamed n0=some g0) (ht0:(Tryz.prog.globals[g0]?).map (·.type)=some 82) (hg1:Tryz.prog.globalNamed n1=some g1) (ht1:(Tryz.prog.globals[g1]?).map (·.type)=some 82)
  (hp:W.var? Tryz.prog n0=some #[.iface 326 (.pointer (some p))]) (hq:W.var? Tryz.prog n1=some #[.iface 326 (.pointer (some q))]) :
  q≠p/\(∃ c t,W.heap[p.block]?=some (.cells c t (0,0)))/\∃ c t,W.heap[q.block]?=some (.cells c t (0,0)):=by
 obtain ⟨a0,a1,s0,s1,c0,c1,t0,t1,hv0,hv1,-,-,-,-,-,-,hne,hb0,hb1⟩:=laid_sentinels2 h hg0 ht0 hg1 ht1 Tryz.underlying82 Tryz.rowES Tryz.underlying326 Tryz.underlying351 rfl rfl Tryz.underlying9 Tryz.cellsES Tryz.cellsStr;obtain rfl:p=a0:=by have:=hp.symm.trans hv0;simpa using this
 obtain rfl:q=a1:=by have:=hq.symm.trans hv1;simpa using this
 exact ⟨fun e=>hne e.symm,⟨_,_,hb0⟩,⟨_,_,hb1⟩⟩
end Go.Proofs.YtaibkchbkedjnaaGreatDoor
