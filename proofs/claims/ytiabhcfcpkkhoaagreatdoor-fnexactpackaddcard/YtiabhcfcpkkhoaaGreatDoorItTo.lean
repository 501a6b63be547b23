/-
  laws.toItem, toItemS and toPack copy into memory of their own.
-/
import Derived.Test.YtiabhcfcpkkhoaaGreatDoorItEq
import Derived.Test.YtiabhcfcpkkhoaaGreatDoorElN
import Derived.Test.YtiabhcfcpkkhoaaGreatDoorElC
import Derived.Test.YtiabhcfcpkkhoaaGreatDoorNum
import Derived.Test.YtiabhcfcpkkhoaaGreatDoorPkA
import Derived.Test.YtiabhcfcpkkhoaaGreatDoorDcI
import Derived.Test.YtiabhcfcpkkhoaaGreatDoorBApp
namespace Go.Proofs.YtiabhcfcpkkhoaaGreatDoor
open Go.RowKit
set_option linter.unusedVariables false

section
variable {w w' : World} {B : Nat} {v : Value} {es : List El}
theorem OVt.letters (h:OVt w B v es) (k:Nat) (hk:k<es.length) (s:El) (hs:s.cells true=(es.getD k de).cells true) (hm:Mine w B w.heap.size (es.getD k de).a (es.getD k de).c (es.getD k de).ls) (ho:Only (rowOf (es.getD k de).a) w w'):OVt w' B v (es.set k s):=by
  have h2:=h.stay ho (fun b hb=>h.other hm hb)
  exact ⟨by rw [List.length_set,flat_setE true es s k hk hs];exact h2.own⟩
end

set_option maxHeartbeats 4000000 in
theorem markItemS_own (a:Option Addr) (cap B:Nat) (ss:List El) (k:Int) (w:World) (h:OVt w B (.slice a ss.length cap) ss) (hd:Deep w B ss) (hn:ss.length+elets ss≤1048576) (h0:0≤k) (h1:k+ss.length+elets ss≤2097152) :
    Calls Tryz.prog 31 #[.slice a ss.length cap,.int .i64 k] w fun e w'=>e=.returned (.int .i64 (k+elets ss+ss.length))∧(OVt w' B (.slice a ss.length cap) (mkE true k ss)∧Deep w' B (mkE true k ss))∧Only (fun b=>(Value.slice a ss.length cap).ownBlock=some b∨∃ s ∈ ss,rowOf s.a b) w w':=by
  have HST:Hid _:=mkE_step true k ss
  have HGE:Hid _:=mkE_rest true k ss
  have HSU:Hid _:=mkA_succ true k ss
  have HLB:Hid _:=mkA_le true k ss
  have HLE:Hid (∀ j,j≤ss.length→(mkE true k (ss.take j)++ss.drop j).length=ss.length):=fun j hj=>by rw [List.length_append,mkE_len,List.length_take,List.length_drop];omega
  have HO:Hid (OVt w B (.slice a ss.length cap) ss∧Deep w B ss):=⟨h,hd⟩
  have HMM:Hid (∀ j,j<ss.length→ss.getD j de ∈ ss∧(ss.getD j de).ls.length≤elets ss):=fun j hj=>⟨getD_memE hj,elets_mem (getD_memE hj)⟩
  clear h hd
  have HFI:Hid (mkE true k (ss.take ss.length)++ss.drop ss.length=mkE true k ss∧mkA true k ss ss.length=k+elets ss+ss.length):=⟨by rw [List.take_length];simp,by rw [mkA_all];simp [eO]⟩
  generalize hlen:ss.length=n at *
  have HL:Hid (ss.length=n∧True):=⟨hlen,trivial⟩
  clear hlen
  generalize hT:elets ss=T at *
  clear hT
  go_enter Tryz.func31,Tryz.ntmps31
  go_wp2
  go_loopw [1,5] (fun q i wr=>∃ (j:Nat) (y:Int),j≤n∧i=.int .i64 j∧q=.int .i64 y∧y=mkA true k ss j∧OVt wr B (.slice a n cap) (mkE true k (ss.take j)++ss.drop j)∧Deep wr B (mkE true k (ss.take j)++ss.drop j)∧Only (fun b=>(Value.slice a n cap).ownBlock=some b∨∃ s ∈ ss,rowOf s.a b) w wr) (fun _ i _=>n - (intOf i).toNat)
  case atStart=>exact ⟨0,k,Nat.zero_le _,rfl,rfl,by simp [mkA,elets],by simpa [mkE] using HO.out.1,by simpa [mkE] using HO.out.2,Only.refl _ _⟩
  case round=>
    clear HO
    obtain ⟨j,y,hj,rfl,rfl,hy,hown,hdeep,honly⟩:=hrel
    have hyb:=HLB.out j hj
    have HY:Hid (y=mkA true k ss j∧True):=⟨hy,trivial⟩
    rw [← hy] at hyb
    have HOW:Hid (OVt wr B (.slice a n cap) (mkE true k (ss.take j)++ss.drop j)∧Deep wr B (mkE true k (ss.take j)++ss.drop j)):=⟨hown,hdeep⟩
    have HON:Hid (Only (fun b=>(Value.slice a n cap).ownBlock=some b∨∃ s ∈ ss,rowOf s.a b) w wr):=honly
    clear hy
    by_cases hjn:j<n
    · obtain ⟨g,cap',e',_,hg2,hfz,hli⟩:=hown.cell j (by rw [HLE.out j hj];exact hjn)
      have hl0:=(hli j (by rw [HLE.out j hj];exact hjn)).c0 rfl
      have hl1:=(hli j (by rw [HLE.out j hj];exact hjn)).c1
      have hmi:=hdeep.mine _ (getD_memE (k:=j) (by rw [HLE.out j hj];exact hjn))
      rw [HGE.out j hjn] at hl0 hl1 hmi
      simp only [eW,eO,cond_true] at hl0 hl1
      obtain ⟨rfl,-,rfl⟩:a=some ⟨g,0,none⟩∧_∧cap=cap':=by simpa using e'
      have f0:=hfz (j * 2)
      have hst:=HST.out j hjn
      rw [← HY.out.1] at hst
      have HSTJ:Hid (_∧True):=⟨hst,trivial⟩
      obtain ⟨HIN,hT2⟩:=HMM.out j hjn
      have HGJ:Hid (_∧True):=⟨HGE.out j hjn,trivial⟩
      have HYN:Hid (mkA true k ss (j+1)=y+1+(ss.getD j de).ls.length∧True):=⟨by rw [HSU.out j hjn,HY.out.1];simp [eO],trivial⟩
      have hlk:j<(mkE true k (ss.take j)++ss.drop j).length:=by rw [HLE.out j hj];exact hjn
      have hlk2:∀ s:El,j<((mkE true k (ss.take j)++ss.drop j).set j s).length:=fun s=>by rw [List.length_set];exact hlk
      have hgs:∀ s:El,((mkE true k (ss.take j)++ss.drop j).set j s).getD j de=s:=fun s=>by rw [getD_setE _ j j _ hlk,if_pos rfl]
      have hR1:=hown.store j hlk { (ss.getD j de) with n:=y } 0 (by simp [eW]) (.int .i64 y) (by rw [HGE.out j hjn];rfl) (g:=g) rfl
      have hon1:Only (fun b=>b=g) wr (wr.setCell ⟨g,j * 2,none⟩ (.int .i64 y)):=(Only.refl (fun b=>b=g) wr).setCell (p:=⟨g,j * 2,none⟩) (.inl rfl) _
      have hD1:=hdeep.stay hon1 (fun x hx b hb e=>hown.other (hdeep.mine x hx) (g:=g) rfl (e ▸ hb))
      have hD2:Deep (wr.setCell ⟨g,j * 2,none⟩ (.int .i64 y)) B ((mkE true k (ss.take j)++ss.drop j).set j { (ss.getD j de) with n:=y }):=by
        refine ⟨fun t ht=>?_,by rw [map_setE _ j _ (by rw [HGE.out j hjn]) hlk];exact hD1.apart⟩
        rcases List.mem_or_eq_of_mem_set ht with ht | rfl
        · exact hD1.mine t ht
        · have:=hD1.mine _ (getD_memE hlk)
          rw [HGE.out j hjn] at this
          exact this
      have hmi1:=hD2.mine _ (getD_memE (hlk2 _))
      rw [hgs] at hmi1
      simp only at hmi1
      rw [show j * eW true+0=j * 2 from by simp [eW]] at hR1
      have HR1:Hid (OVt (wr.setCell ⟨g,j * 2,none⟩ (.int .i64 y)) B (.slice (some ⟨g,0,none⟩) n cap) ((mkE true k (ss.take j)++ss.drop j).set j { (ss.getD j de) with n:=y })∧Deep (wr.setCell ⟨g,j * 2,none⟩ (.int .i64 y)) B ((mkE true k (ss.take j)++ss.drop j).set j { (ss.getD j de) with n:=y })):=⟨hR1,hD2⟩
      have HMI:Hid (Mine (wr.setCell ⟨g,j * 2,none⟩ (.int .i64 y)) B (wr.setCell ⟨g,j * 2,none⟩ (.int .i64 y)).heap.size (ss.getD j de).a (ss.getD j de).c (ss.getD j de).ls):=hmi1
      have HMK:=markByteS_any (ss.getD j de).a B _ (ss.getD j de).c (ss.getD j de).ls (y+1) _ hmi1 (by omega) (by omega) (by have h9:=HLB.out (j+1) (by omega);rw [HYN.out.1] at h9;omega)
      have HIN':Hid (ss.getD j de ∈ ss):=HIN
      have HON1:Hid (Only (fun b=>(Value.slice (some ⟨g,0,none⟩) n cap).ownBlock=some b∨∃ s ∈ ss,rowOf s.a b) w (wr.setCell ⟨g,j * 2,none⟩ (.int .i64 y))):=HON.out.trans (hon1.mono (fun b _ hb=>.inl (by rw [hb];rfl)))
      have HK2:Hid ((∀ s:El,j<((mkE true k (ss.take j)++ss.drop j).set j s).length)∧(∀ s:El,((mkE true k (ss.take j)++ss.drop j).set j s).getD j de=s)):=⟨hlk2,hgs⟩
      clear hst hown hdeep honly hmi hli e' HIN HY hR1 hD1 hD2 hmi1 hon1 hlk hlk2 hgs hfz HON HOW
      generalize hs:ss.getD j de=s at *
      clear hs
      go_wp2_with fail
      refine HMK.mono ?_
      clear HMK
      rintro e w2 ⟨rfl,hm2,ho2⟩
      have hc2:(mk1 true y s).cells true=(((mkE true k (ss.take j)++ss.drop j).set j { s with n:=y }).getD j de).cells true:=by rw [HK2.out.2];simp [mk1,El.cells,marks_len]
      have hR2:=HR1.out.1.letters j (HK2.out.1 _) (mk1 true y s) hc2 (by rw [HK2.out.2];exact HMI.out) (w':=w2) (by rw [HK2.out.2];exact ho2)
      have hD2:=HR1.out.2.letters j (HK2.out.1 _) (mk1 true y s) (by rw [HK2.out.2];rfl) (w':=w2) (by rw [HK2.out.2];exact ho2) (by simpa [mk1,eO] using hm2)
      rw [List.set_set,HSTJ.out.1] at hR2 hD2
      have HN2:Hid _:=And.intro hR2 hD2
      have HO2:Hid (Only (fun b=>(Value.slice (some ⟨g,0,none⟩) n cap).ownBlock=some b∨∃ s ∈ ss,rowOf s.a b) w w2):=HON1.out.trans (ho2.mono (fun b _ hb=>.inr ⟨s,HIN'.out,hb⟩))
      clear hR2 hD2 hc2 ho2 hm2 HMI HGJ HR1 HON1
      go_wp2
      go_roundw
      case rel=>exact ⟨j+1,_,by omega,by go_num,rfl,HYN.out.1.symm,HN2.out.1,HN2.out.2,HO2.out⟩
      case measure=>simp [intOf];omega
    · have hjn2:j=n:=by omega
      subst hjn2
      have HFO:Hid (OVt wr B (.slice a j cap) (mkE true k ss)∧Deep wr B (mkE true k ss)):=by rw [← HFI.out.1];exact HOW.out
      have HYF:Hid (y=k+(T:Nat)+(j:Nat)∧True):=⟨HY.out.1.trans HFI.out.2,trivial⟩
      clear HOW hown hdeep
      go_wp2
      go_ret
      exact ⟨by rw [← HYF.out.1];rfl,HFO.out,HON.out⟩

set_option maxHeartbeats 1000000 in
theorem markPack_own (E O:Int) (a:Option Addr) (cap B:Nat) (ss:List El) (k:Int) (w:World) (h:OVt w B (.slice a ss.length cap) ss) (hd:Deep w B ss) (hn:ss.length+elets ss≤1048576) (h0:0≤k) (h1:k+ss.length+elets ss≤2097152) :
    Calls Tryz.prog 12 #[.agg #[.int .i64 E,.int .i64 O,.slice a ss.length cap],.int .i64 k] w fun e w'=>e=.returned (.int .i64 (k+elets ss+ss.length))∧(OVt w' B (.slice a ss.length cap) (mkE true k ss)∧Deep w' B (mkE true k ss))∧Only (fun b=>(Value.slice a ss.length cap).ownBlock=some b∨∃ s ∈ ss,rowOf s.a b) w w':=by
  have hw:Below w.heap.size w (w.alloc (Obj.cells #[Value.int IntKind.i64 E,Value.int IntKind.i64 O,Value.slice a ss.length cap] 32)):=(Below.refl _ _).alloc (Nat.le_refl _) _
  have HM:=markItemS_own a cap B ss k _ (h.below hw) (hd.below hw) hn h0 h1
  clear h hd
  go_enter Tryz.func12,Tryz.ntmps12
  go_wp2_with fail
  refine HM.mono ?_
  clear HM
  rintro e w1 ⟨rfl,h2,h3⟩
  have HF:Hid ((OVt w1 B (.slice a ss.length cap) (mkE true k ss)∧Deep w1 B (mkE true k ss))∧Only (fun b=>(Value.slice a ss.length cap).ownBlock=some b∨∃ s ∈ ss,rowOf s.a b) w w1):=⟨h2,((Only.refl (fun b=>(Value.slice a ss.length cap).ownBlock=some b∨∃ s ∈ ss,rowOf s.a b) w).alloc _).trans h3⟩
  clear h2 h3 hw
  go_wp2
  go_ret
  exact ⟨rfl,HF.out.1,HF.out.2⟩
set_option maxHeartbeats 400000 in
theorem heldByteS_any (a:Option Addr) (cap n:Nat) (k:Int) (w:World) (h:Byt w a (marks k n)) (hn:n≤2097152) (h0:0≤k) (h1:k≤2097152) :
    Calls Tryz.prog 40 #[.slice a n cap,.int .i64 k] w fun e w'=>e=.returned (.int .i64 (k+n))∧w'=w:=by
  have hl:=marks_len k n
  have HB:Hid (Byt w a (marks k n)):=h
  clear h
  go_enter Tryz.func40,Tryz.ntmps40
  go_wp2
  go_loop [1,5] (fun q i=>∃ j:Nat,j≤n∧i=.int .i64 j∧q=.int .i64 (k+j)) (fun _ i=>n - (intOf i).toNat)
  case atStart=>exact ⟨0,Nat.zero_le _,rfl,by simp⟩
  case round=>
    obtain ⟨j,hj,rfl,rfl⟩:=hrel
    by_cases hlt:j<n
    · obtain ⟨b,off,rfl,hbl,hc⟩:=HB.out.len_pos j (by rw [hl];exact hlt)
      have hs:=hc j (by rw [hl];exact hlt)
      rw [marks_get k n j hlt] at hs
      have hq:((k+j) % 256 != (k+j) % 256)=false:=by simp
      clear hc hl
      go_wp2
      go_round
      case rel=>exact ⟨j+1,by omega,by go_num,by go_num⟩
      case measure=>simp [intOf];omega
    · have hjn:j=n:=by omega
      subst hjn
      go_wp2
      go_ret
      exact ⟨rfl,rfl⟩
set_option maxHeartbeats 4000000 in
theorem heldItemS_any (a:Option Addr) (cap:Nat) (ss:List El) (k:Int) (w:World) (h:Els true w a (mkE true k ss)) (hn:ss.length+elets ss≤1048576) (h0:0≤k) (h1:k+ss.length+elets ss<2097152) :
    Calls Tryz.prog 33 #[.slice a ss.length cap,.int .i64 k] w fun e w'=>e=.returned (.int .i64 (k+elets ss+ss.length))∧w'=w:=by
  have HGE:Hid _:=mkE_get true k ss
  have HSU:Hid _:=mkA_succ true k ss
  have HLB:Hid _:=mkA_le true k ss
  have HSS:Hid (Els true w a (mkE true k ss)):=h
  have HMM:Hid (∀ j,j<ss.length→(ss.getD j de).ls.length≤elets ss):=fun j hj=>elets_mem (getD_memE hj)
  have HFI:Hid ((mkE true k ss).length=ss.length∧mkA true k ss ss.length=k+elets ss+ss.length):=⟨mkE_len _ _ _,by rw [mkA_all];simp [eO]⟩
  clear h
  generalize hlen:ss.length=n at *
  have HL:Hid (ss.length=n∧True):=⟨hlen,trivial⟩
  clear hlen
  generalize hT:elets ss=T at *
  clear hT
  go_enter Tryz.func33,Tryz.ntmps33
  go_wp2
  go_loop [1,5] (fun q i=>∃ (j:Nat) (y:Int),j≤n∧i=.int .i64 j∧q=.int .i64 y∧y=mkA true k ss j) (fun _ i=>n - (intOf i).toNat)
  case atStart=>exact ⟨0,k,Nat.zero_le _,rfl,rfl,by simp [mkA,elets]⟩
  case round=>
    obtain ⟨j,y,hj,rfl,rfl,hy⟩:=hrel
    have hyb:=HLB.out j hj
    have HY:Hid (y=mkA true k ss j∧True):=⟨hy,trivial⟩
    rw [← hy] at hyb
    clear hy
    by_cases hjn:j<n
    · obtain ⟨b,off,rfl,hb1,c0,c1,hby,-⟩:=HSS.out.pen j (by rw [HFI.out.1];exact hjn)
      rw [HGE.out j hjn,← HY.out.1] at c0 c1 hby
      simp only [mk1,marks_len,cond_true] at c0 c1 hby
      rw [show y+((eO true:Nat):Int)=y+1 from by simp [eO]] at hby
      have HBY:Hid (Byt w (ss.getD j de).a (marks (y+1) (ss.getD j de).ls.length)):=hby
      have HYN:Hid (mkA true k ss (j+1)=y+1+(ss.getD j de).ls.length∧True):=⟨by rw [HSU.out j hjn,HY.out.1];simp [eO],trivial⟩
      have hT2:=HMM.out j hjn
      clear hby HY
      generalize ss.getD j de=s at *
      have HHB:=heldByteS_any s.a s.c s.ls.length (y+1) w HBY.out (by omega) (by omega) (by omega)
      generalize s.ls.length=M at *
      have hyy:(y != y)=false:=by simp
      go_wp2_with fail
      refine HHB.mono ?_
      clear HHB
      rintro e w2 ⟨rfl,rfl⟩
      go_wp2
      go_round
      case rel=>exact ⟨j+1,_,by omega,by go_num,rfl,HYN.out.1.symm⟩
      case measure=>simp [intOf];omega
    · have hjn2:j=n:=by omega
      subst hjn2
      have HYF:Hid (y=k+(T:Nat)+(j:Nat)∧True):=⟨HY.out.1.trans HFI.out.2,trivial⟩
      go_wp2
      go_ret
      exact ⟨by rw [← HYF.out.1];rfl,rfl⟩
set_option linter.unusedSimpArgs false
set_option maxHeartbeats 1000000 in
theorem heldPack_any (E O:Int) (a:Option Addr) (cap:Nat) (ss:List El) (k:Int) (w:World) (h:Els true w a (mkE true k ss)) (hn:ss.length+elets ss≤1048576) (h0:0≤k) (h1:k+ss.length+elets ss<2097152) :
    Calls Tryz.prog 14 #[.agg #[.int .i64 E,.int .i64 O,.slice a ss.length cap],.int .i64 k] w fun e w'=>e=.returned (.int .i64 (k+elets ss+ss.length))∧Below w.heap.size w w':=by
  have hw:Below w.heap.size w (w.alloc (Obj.cells #[Value.int IntKind.i64 E,Value.int IntKind.i64 O,Value.slice a ss.length cap] 32)):=(Below.refl _ _).alloc (Nat.le_refl _) _
  have HM:=heldItemS_any a cap ss k _ (h.below hw (Nat.le_refl _)) hn h0 h1
  clear h
  go_enter Tryz.func14,Tryz.ntmps14
  go_wp2_with fail
  refine HM.mono ?_
  clear HM
  rintro e w1 ⟨rfl,h3⟩
  have HF:Hid (Below w.heap.size w w1):=by
    first | exact hw.trans (h3.mono (by simp)) | (subst h3;exact hw)
  clear h3 hw
  have hnn:¬ (k+elets ss+ss.length<0):=by omega
  go_wp2
  go_ret
  exact ⟨rfl,HF.out⟩
structure Snp (w W:World) (N U V Z:Nat) (PB PW PX PG:World→Prop):Prop where
  bel:Below w.heap.size w W
  ord:w.heap.size≤N∧N≤U∧U≤V∧V≤Z∧Z≤W.heap.size
  sb:Stab w.heap.size N PB
  hb:PB W
  sw:Stab N U PW
  hw:PW W
  sx:Stab U V PX
  hx:PX W
  sg:Stab V Z PG
  hg:PG W
section
variable {w W W' : World} {N U V Z : Nat} {PB PW PX PG : World → Prop}
theorem Snp.step (h:Snp w W N U V Z PB PW PX PG) (hb:Below W.heap.size W W'):Snp w W' N U V Z PB PW PX PG:=by
  have o:=h.ord;have hs:=hb.size
  have ho:Only (fun _=>False) W W':=Only.ofBelow hb (Nat.le_refl _)
  exact ⟨h.bel.trans (hb.mono (by omega)),by omega,h.sb,h.sb _ _ _ h.hb ho (by simp) (by omega),h.sw,h.sw _ _ _ h.hw ho (by simp) (by omega),h.sx,h.sx _ _ _ h.hx ho (by simp) (by omega),h.sg,h.sg _ _ _ h.hg ho (by simp) (by omega)⟩
theorem Snp.drew (h:Snp w W N U V Z PB PW PX PG) (n:Nat):Snp w (W.drewN n) N U V Z PB PW PX PG:=h.step ⟨rfl,rfl,rfl,Nat.le_refl _,fun _ _=>rfl⟩
theorem Snp.markX {T:Nat→Prop} {PX':World→Prop} (h:Snp w W N U V Z PB PW PX PG) (ho:Only T W W') (hT:∀ k,T k→U≤k∧k<V) (sx:Stab U V PX') (hx:PX' W'):Snp w W' N U V Z PB PW PX' PG:=by
  have o:=h.ord;have hs:=ho.size
  have hbel:Below w.heap.size W W':=ho.below (by omega) (fun k hk=>by have:=hT k hk;omega)
  exact ⟨h.bel.trans hbel,by omega,h.sb,h.sb _ _ _ h.hb ho (fun k h1 h2 hk=>by have:=hT k hk;omega) (by omega),h.sw,h.sw _ _ _ h.hw ho (fun k h1 h2 hk=>by have:=hT k hk;omega) (by omega),sx,hx,h.sg,h.sg _ _ _ h.hg ho (fun k h1 h2 hk=>by have:=hT k hk;omega) (by omega)⟩
theorem Snp.markG {T:Nat→Prop} {PG':World→Prop} (h:Snp w W N U V Z PB PW PX PG) (ho:Only T W W') (hT:∀ k,T k→V≤k∧k<Z) (sg:Stab V Z PG') (hg:PG' W'):Snp w W' N U V Z PB PW PX PG':=by
  have o:=h.ord;have hs:=ho.size
  have hbel:Below w.heap.size W W':=ho.below (by omega) (fun k hk=>by have:=hT k hk;omega)
  exact ⟨h.bel.trans hbel,by omega,h.sb,h.sb _ _ _ h.hb ho (fun k h1 h2 hk=>by have:=hT k hk;omega) (by omega),h.sw,h.sw _ _ _ h.hw ho (fun k h1 h2 hk=>by have:=hT k hk;omega) (by omega),h.sx,h.sx _ _ _ h.hx ho (fun k h1 h2 hk=>by have:=hT k hk;omega) (by omega),sg,hg⟩
end
theorem MinI.rowT {W:World} {B D:Nat} {a:Option Addr} {c:Nat} {zs:List Int} (h:MinI W B D a c zs) {k:Nat} (hk:rowOf a k):B≤k∧k<D:=by
  obtain ⟨x,hx,rfl⟩:=hk
  rcases h with ⟨h',_⟩ | ⟨g,h',g1,g2,_⟩
  · rw [h'] at hx;cases hx
  · rw [h'] at hx
    simp at hx
    rw [← hx]
    exact ⟨g1,g2⟩
theorem Mine.rowT {W:World} {B D:Nat} {a:Option Addr} {c:Nat} {zs:List Int} (h:Mine W B D a c zs) {k:Nat} (hk:rowOf a k):B≤k∧k<D:=by
  obtain ⟨x,hx,rfl⟩:=hk
  rcases h with ⟨h',_⟩ | ⟨g,h',g1,g2,_⟩
  · rw [h'] at hx;cases hx
  · rw [h'] at hx
    simp at hx
    rw [← hx]
    exact ⟨g1,g2⟩
set_option maxHeartbeats 1000000 in
theorem markItem_any (n:Int) (a:Option Addr) (B U c:Nat) (zs:List Int) (k:Int) (w:World) (h:Mine w B U a c zs) (hn:zs.length≤2097152) (h0:0≤k) (h1:k≤2097152) :
    Calls Tryz.prog 13 #[.agg #[.int .i64 n,.slice a zs.length c],.int .i64 k] w fun e w'=>e=.returned (.int .i64 (k+zs.length))∧Only (rowOf a) w w':=by
  have hw:Below w.heap.size w (w.alloc (Obj.cells #[Value.int IntKind.i64 n,Value.slice a zs.length c] 36)):=(Below.refl _ _).alloc (Nat.le_refl _) _
  have HM:=markByteS_any a B U c zs k _ (h.below hw) hn h0 h1
  clear h
  go_enter Tryz.func13,Tryz.ntmps13
  go_wp2_with fail
  refine HM.mono ?_
  clear HM
  rintro e w1 ⟨rfl,-,h3⟩
  have HF:Hid (Only (rowOf a) w w1):=((Only.refl (rowOf a) w).alloc _).trans h3
  clear h3 hw
  go_wp2
  go_ret
  exact ⟨rfl,HF.out⟩
set_option maxHeartbeats 800000 in
theorem toItem_any (n:Int) (a:Option Addr) (cap:Nat) (zs:List Int) (w:World) (hb:Byt w a zs) (hn:zs.length≤1048576) :
    Calls Tryz.prog 8 #[.agg #[.int .i64 n,.slice a zs.length cap]] w fun e w'=>
      ∃ g,e=.returned (.agg #[.int .i64 n,.slice (some ⟨g,0,none⟩) zs.length zs.length])∧Own w' w.heap.size g zs.length zs∧Below w.heap.size w w':=by
  go_enter Tryz.func8,Tryz.ntmps8
  go_wp2_with fail
  have hw:Below w.heap.size w (((w.alloc (Obj.cells #[Value.int IntKind.i64 n,Value.slice a zs.length cap] 27)).alloc (Obj.cells #[Value.int IntKind.i64 0,Value.slice none 0 0] 36)).alloc (Obj.cells #[Value.int IntKind.i64 n,Value.slice none 0 0] 36)):=
    (((Below.refl _ _).alloc (Nat.le_refl _) _).alloc (by simp) _).alloc (by simp;omega) _
  refine (toByteS_any a cap zs _ (hb.below hw (Nat.le_refl _)) hn).mono ?_
  rintro e w1 ⟨rfl,hown,hbel⟩
  obtain ⟨hc,hf⟩:=bcell hbel
  have hz:=hbel.size
  have hb2:=hw.trans (hbel.mono (by simp;omega))
  simp at hc hf hz hown
  clear hbel hw
  go_wp2
  refine bodyPost_ret (v:=.agg #[.int .i64 n,.slice (some ⟨w.heap.size+1+1+1,0,none⟩) zs.length zs.length]) (by simp [results,Tryz.results8,go_sem,hc]) rfl ⟨_,rfl,?_,?_⟩
  · refine Own.mono (B:=w.heap.size+1+1+1) ?_ (by omega)
    repeat (refine Own.setCell_other ?_ (by simp) _)
    exact hown
  · repeat (refine Below.setCell ?_ (by first | (simp;done) | (simp;omega)) _)
    exact hb2

set_option maxHeartbeats 4000000 in
theorem toItemS_any (a:Option Addr) (cap:Nat) (ss:List El) (w:World) (hb:Els true w a ss) (hn:ss.length≤1048576) (hl:∀ s ∈ ss,s.ls.length≤1048576) :
    Calls Tryz.prog 22 #[.slice a ss.length cap] w fun e w'=>
      e=.returned (.slice (some ⟨w.heap.size,0,none⟩) ss.length ss.length)∧(∃ ts,CopT w' w.heap.size (.slice (some ⟨w.heap.size,0,none⟩) ss.length ss.length) ts ss)∧Below w.heap.size w w':=by
  obtain ⟨i0,hi,hz0,hz1,hz2⟩:=info_parts Tryz.infoItem
  have HSS:Hid (Els true w a ss):=hb
  have HLS:Hid (∀ s ∈ ss,s.ls.length≤1048576):=hl
  clear hb hl
  generalize hlen:ss.length=n at *
  have HL:Hid (ss.length=n∧True):=⟨hlen,trivial⟩
  clear hlen
  go_enter Tryz.func22,Tryz.ntmps22
  go_wp2_with (at_make;refine wpList_make_full _ rfl _ _ 30 rfl w.heap.size 36 i0 (.agg #[.int .i64 0,.slice none 0 0]) 2 Tryz.underlying30 hi hz0 hz1 .i64 .i64 _ _ n rfl rfl rfl rfl (by rw [hz2];omega) (by unfold maxLen;omega) (Nat.le_refl _) ?_;intro w1 hown hgrow)
  have hbw:Below w.heap.size w w1:=(Below.refl _ _).grown hgrow (Nat.le_refl _) (by intro k hk;cases hk)
  have H0:Hid (OVt w1 w.heap.size (.slice (some ⟨w.heap.size,0,none⟩) n n) ([]++List.replicate n de)):=by
    rw [List.nil_append]
    rw [made_pens] at hown
    exact ⟨by rw [List.length_replicate];exact hown⟩
  clear hown hgrow hi hz0 hz1 hz2
  go_loopw [4] (fun i wr=>∃ (k:Nat) (bs:List El),k≤n∧i=.int .i64 k∧bs.length=k∧bs.map El.ct=(ss.take k).map El.ct∧OVt wr w.heap.size (.slice (some ⟨w.heap.size,0,none⟩) n n) (bs++List.replicate (n - k) de)∧Deep wr w.heap.size bs∧(∀ e ∈ bs,rE true e)∧Below w.heap.size w wr) (fun i _=>n - (intOf i).toNat)
  case atStart=>exact ⟨0,[],Nat.zero_le _,rfl,rfl,by simp,H0.out,Deep.nil _ _,by simp,hbw⟩
  case round=>
    clear H0 hbw
    obtain ⟨k,bs,hk,rfl,hbl,hct,hown,hdeep,hrg0,hbel⟩:=hrel
    have HBL:Hid (bs.length=k∧bs.map El.ct=(ss.take k).map El.ct):=⟨hbl,hct⟩
    have HO:Hid (OVt wr w.heap.size (.slice (some ⟨w.heap.size,0,none⟩) n n) (bs++List.replicate (n - k) de)∧Deep wr w.heap.size bs∧(∀ e ∈ bs,rE true e)):=⟨hown,hdeep,hrg0⟩
    clear hbl hct hown hdeep hrg0
    by_cases hlt:k<n
    · obtain ⟨b,off,rfl,hb1,c0,c1,hby,hrg⟩:=(HSS.out.below hbel (Nat.le_refl _)).pen k (by rw [HL.out.1];exact hlt)
      have hll:=HLS.out _ (getD_memE (k:=k) (by rw [HL.out.1];exact hlt))
      have HCS:Hid ((ss.take (k+1)).map El.ct=(ss.take k).map El.ct++[(ss.getD k de).ct]∧True):=⟨ctE_take_succ ss k (by rw [HL.out.1];exact hlt),trivial⟩
      generalize ss.getD k de=s at *
      obtain ⟨sn,sa,sc,sl⟩:=s
      simp only at c0 c1 hby hll
      have HRG:Hid (rE true ⟨sn,sa,sc,sl⟩):=hrg
      have HBY:Hid (Byt wr sa sl):=hby
      clear hrg hby
      go_wp2_with fail
      refine (toItem_any sn sa sc sl wr HBY.out hll).mono ?_
      rintro e w2 ⟨g2,rfl,ho2,hb2⟩
      have hlt2:=ho2.lt
      have hlo:(bs++List.replicate (n - k) de).length=n:=by rw [List.length_append,List.length_replicate,HBL.out.1];omega
      have hgd:=getD_app_replE bs (n - k) k (by rw [HBL.out.1];exact Nat.le_refl _)
      have hO2:OVt w2 w.heap.size (.slice (some ⟨w.heap.size,0,none⟩) n n) (bs++List.replicate (n - k) de):=HO.out.1.below hb2
      have hs1:=hO2.store k (by omega) ⟨sn,none,0,[]⟩ 0 (by simp [eW]) (.int .i64 sn) (by rw [hgd];rfl) (g:=w.heap.size) rfl
      have hst:=hs1.store k (by rw [List.length_set];omega) ⟨sn,some ⟨g2,0,none⟩,sl.length,sl⟩ 1 (by simp [eW]) (.slice (some ⟨g2,0,none⟩) sl.length sl.length) (by rw [List.getD_eq_getElem?_getD,List.getElem?_set_self (by omega)];rfl) (g:=w.heap.size) rfl
      rw [List.set_set,set_app_replE bs (n - k) k _ HBL.out.1 (by omega),show n - k - 1=n - (k+1) from by omega,show k * eW true+0=k * 2 from by simp [eW],show k * eW true+1=k * 2+1 from by simp [eW]] at hst
      have hdp:Deep w2 w.heap.size (bs++[⟨sn,some ⟨g2,0,none⟩,sl.length,sl⟩]):=(HO.out.2.1.below hb2).snoc (U:=wr.heap.size) (.inr ⟨_,rfl,hlt2.1,hlt2.2,ho2⟩) (fun x hx k hk=>HO.out.2.1.lt x hx k hk) hbel.size
      have HDP:Hid (Deep ((w2.setCell ⟨w.heap.size,k * 2,none⟩ (.int .i64 sn)).setCell ⟨w.heap.size,k * 2+1,none⟩ (.slice (some ⟨g2,0,none⟩) sl.length sl.length)) w.heap.size (bs++[⟨sn,some ⟨g2,0,none⟩,sl.length,sl⟩])):=
        hdp.stay (S:=fun b=>b=w.heap.size) (((Only.refl (fun b=>b=w.heap.size) w2).setCell (p:=⟨w.heap.size,k * 2,none⟩) (.inl rfl) _).setCell (p:=⟨w.heap.size,k * 2+1,none⟩) (.inl rfl) _) (fun x hx j hj e=>hO2.other (hdp.mine x hx) (g:=w.heap.size) rfl (e ▸ hj))
      have HST:Hid _:=hst
      obtain ⟨g',cap',e',_,_,hfz,hli⟩:=hO2.cell k (by omega)
      obtain ⟨rfl,-,rfl⟩:w.heap.size=g'∧_∧n=cap':=by simpa using e'
      have f0:=hfz (k * 2)
      have f1:=hfz (k * 2+1)
      have l1:=(hli k (by omega)).c0 rfl
      have l2:=(hli k (by omega)).c1
      rw [hgd] at l1 l2
      simp only [eW,eO,cond_true] at l1 l2
      have HB2:Hid (Below w.heap.size w w2):=hbel.trans (hb2.mono hbel.size)
      have HRN:Hid (∀ e ∈ bs++[⟨sn,some ⟨g2,0,none⟩,sl.length,sl⟩],rE true e):=rE_snoc HO.out.2.2 ⟨HRG.out.lo,HRG.out.hi,HRG.out.len,HRG.out.zero⟩
      clear hst hs1 hO2 ho2 hb2 HO hbel HBY c0 c1 hdp hfz hli e' HRG hlo hgd
      go_wp2
      go_roundw
      case rel=>exact ⟨k+1,bs++[⟨sn,some ⟨g2,0,none⟩,sl.length,sl⟩],by omega,by go_num,by rw [List.length_append,HBL.out.1];rfl,by rw [List.map_append,HBL.out.2,HCS.out.1];rfl,HST.out,HDP.out,HRN.out,(HB2.out.setCell (p:=⟨w.heap.size,_,none⟩) (Nat.le_refl _) _).setCell (p:=⟨w.heap.size,_,none⟩) (Nat.le_refl _) _⟩
      case measure=>simp [intOf];omega
    · have hkn:k=n:=by omega
      subst hkn
      have HA:Hid (CopT wr w.heap.size (.slice (some ⟨w.heap.size,0,none⟩) k k) bs ss):=by
        have h1:=HO.out.1
        rw [Nat.sub_self,List.replicate_zero,List.append_nil] at h1
        exact ⟨by rw [HBL.out.2,List.take_of_length_le (by rw [HL.out.1];exact Nat.le_refl _)],h1,HO.out.2.1,HO.out.2.2⟩
      clear HO
      go_wp2
      go_ret
      exact ⟨rfl,⟨bs,HA.out⟩,hbel⟩

set_option maxHeartbeats 1600000 in
theorem toPack_any (E O:Int) (a:Option Addr) (cap:Nat) (es:List El) (w:World) (hb:Els true w a es) (hn:es.length≤1048576) (hl:∀ s ∈ es,s.ls.length≤1048576) :
    Calls Tryz.prog 7 #[.agg #[.int .i64 E,.int .i64 O,.slice a es.length cap]] w fun e w'=>
      (∃ g ts,e=.returned (.agg #[.int .i64 E,.int .i64 O,.slice (some ⟨g,0,none⟩) es.length es.length])∧CopT w' w.heap.size (.slice (some ⟨g,0,none⟩) es.length es.length) ts es)∧Below w.heap.size w w':=by
  have HB:Hid (Els true w a es):=hb
  have HL:Hid (∀ s ∈ es,s.ls.length≤1048576):=hl
  clear hb hl
  go_enter Tryz.func7,Tryz.ntmps7
  go_wp2_with fail
  have hw:Below w.heap.size w (((w.alloc (Obj.cells #[Value.int IntKind.i64 E,Value.int IntKind.i64 O,Value.slice a es.length cap] 24)).alloc (Obj.cells #[Value.int IntKind.i64 0,Value.int IntKind.i64 0,Value.slice none 0 0] 32)).alloc (Obj.cells #[Value.int IntKind.i64 E,Value.int IntKind.i64 O,Value.slice none 0 0] 32)):=
    (((Below.refl _ _).alloc (Nat.le_refl _) _).alloc (by simp) _).alloc (by simp;omega) _
  refine (toItemS_any a cap es _ (HB.out.below hw (Nat.le_refl _)) hn HL.out).mono ?_
  rintro e w1 ⟨rfl,⟨ts,hcop⟩,hbel⟩
  obtain ⟨hc,hf⟩:=bcell hbel
  have hz:=hbel.size
  have HB2:Hid (Below w.heap.size w w1):=hw.trans (hbel.mono (by simp;omega))
  simp at hc hf hz hcop
  have HC:Hid _:=hcop
  clear hbel hw hcop
  go_wp2
  refine bodyPost_ret (v:=.agg #[.int .i64 E,.int .i64 O,.slice (some ⟨w.heap.size+1+1+1,0,none⟩) es.length es.length]) (by simp [results,Tryz.results7,go_sem,hc]) rfl ⟨⟨_,ts,rfl,?_⟩,?_⟩
  · refine (HC.out.stay (S:=fun b=>b=w.heap.size+1∨b=w.heap.size+1+1) ?_ (by intro k hk;omega)).weak (by omega)
    repeat (first | exact Only.refl _ _ | refine Only.setCell ?_ (by first | exact .inl (.inl rfl) | exact .inl (.inr rfl)) _)
  · have hb2:=HB2.out
    repeat (first | exact hb2 | refine Below.setCell ?_ (by first | (simp;done) | (simp;omega)) _)
end Go.Proofs.YtiabhcfcpkkhoaaGreatDoor
