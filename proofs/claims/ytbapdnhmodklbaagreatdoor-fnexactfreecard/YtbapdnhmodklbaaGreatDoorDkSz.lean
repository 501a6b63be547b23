/-
  How big a disk is. (Typed by wip/mkdk.py.)
-/
import Derived.Test.YtbapdnhmodklbaaGreatDoorElP
import Derived.Test.YtbapdnhmodklbaaGreatDoorPlMk
import Derived.Test.YtbapdnhmodklbaaGreatDoorMkB
import Derived.Test.YtbapdnhmodklbaaGreatDoorDkW
namespace Go.Proofs.YtbapdnhmodklbaaGreatDoor
open Go.RowKit
set_option linter.unusedVariables false

def marksI (k:Int):Nat→List Int
  | 0 => []
  | n + 1 => marksI k n ++ [k + n]
theorem marksI_len (k:Int) (n:Nat):(marksI k n).length=n:=by
  induction n with
  | zero => rfl
  | succ n ih => simp [marksI, ih]
theorem marksI_get (k:Int) (n i:Nat) (h:i<n):(marksI k n).getD i 0=k+i:=by
  induction n with
  | zero => omega
  | succ n ih =>
    simp only [marksI,List.getD_eq_getElem?_getD,List.getElem?_append,marksI_len]
    by_cases hi:i<n
    · rw [if_pos hi,← List.getD_eq_getElem?_getD];exact ih hi
    · have:i=n:=by omega
      subst this
      simp
theorem marksI_step (k:Int) (zs:List Int) (j:Nat) (h:j<zs.length):(marksI k j++zs.drop j).set j (k+j)=marksI k (j+1)++zs.drop (j+1):=by
  rw [List.set_append_right _ _ (by rw [marksI_len];exact Nat.le_refl _),marksI_len,Nat.sub_self,List.drop_eq_getElem_cons h,List.set_cons_zero]
  simp [marksI]

set_option maxHeartbeats 400000 in
theorem markIntS_own (B g cap:Nat) (zs:List Int) (k:Int) (w:World) (h:OwI w B g cap zs) (hn:zs.length≤2097152) (h0:0≤k) (h1:k≤4194304) :
    Calls Tryz.prog 11 #[.slice (some ⟨g,0,none⟩) zs.length cap,.int .i64 k] w fun e w'=>e=.returned (.int .i64 (k+zs.length))∧OwI w' B g cap (marksI k zs.length)∧Only (·=g) w w':=by
  generalize hlen:zs.length=n at *
  have HL:Hid (zs.length=n):=hlen
  clear hlen
  have HO:Hid (OwI w B g cap zs):=h
  clear h
  go_enter Tryz.func11,Tryz.ntmps11
  go_wp2
  go_loopw [1,5] (fun q i wr=>∃ j:Nat,j≤n∧i=.int .i64 j∧q=.int .i64 (k+j)∧OwI wr B g cap (marksI k j++zs.drop j)∧Only (·=g) w wr) (fun _ i _=>n - (intOf i).toNat)
  case atStart=>exact ⟨0,Nat.zero_le _,rfl,by simp,by simpa [marksI] using HO.out,Only.refl _ _⟩
  case round=>
    obtain ⟨j,hj,rfl,rfl,hown,honly⟩:=hrel
    by_cases hlt:j<n
    · have hl:(marksI k j++zs.drop j).length=n:=by rw [List.length_append,marksI_len,List.length_drop,HL.out];omega
      have hdst:=hown.cell j (by omega)
      have hfz:=hown.frozen j
      have R:=hown.store j (k+j) (by omega)
      rw [marksI_step k zs j (by rw [HL.out];exact hlt)] at R
      have HR:Hid (OwI (wr.setCell ⟨g,j,none⟩ (.int .i64 (k+j))) B g cap (marksI k (j+1)++zs.drop (j+1))):=R
      have HB:Hid (Only (·=g) w (wr.setCell ⟨g,j,none⟩ (.int .i64 (k+j)))):=honly.setCell (.inl rfl) _
      generalize (marksI k j++zs.drop j).getD j 0=old at *
      clear R hown honly hl
      go_wp2
      go_roundw
      case rel=>exact ⟨j+1,by omega,by go_num,by go_num,HR.out,HB.out⟩
      case measure=>simp [intOf];omega
    · have hjn:j=n:=by omega
      subst hjn
      have hown':=hown
      rw [List.drop_of_length_le (by rw [HL.out];exact Nat.le_refl _),List.append_nil] at hown'
      have HF:Hid (OwI wr B g cap (marksI k j)):=hown'
      clear hown hown'
      go_wp2
      go_ret
      exact ⟨rfl,HF.out,honly⟩

set_option maxHeartbeats 400000 in
theorem heldIntS_any (a:Option Addr) (cap n:Nat) (k:Int) (w:World) (h:Ins w a (marksI k n)) (hn:n≤2097152) (h0:0≤k) (h1:k≤4194304) :
    Calls Tryz.prog 12 #[.slice a n cap,.int .i64 k] w fun e w'=>e=.returned (.int .i64 (k+n))∧w'=w:=by
  have hl:=marksI_len k n
  have HB:Hid (Ins w a (marksI k n)):=h
  clear h
  go_enter Tryz.func12,Tryz.ntmps12
  go_wp2
  go_loop [1,5] (fun q i=>∃ j:Nat,j≤n∧i=.int .i64 j∧q=.int .i64 (k+j)) (fun _ i=>n - (intOf i).toNat)
  case atStart=>exact ⟨0,Nat.zero_le _,rfl,by simp⟩
  case round=>
    obtain ⟨j,hj,rfl,rfl⟩:=hrel
    by_cases hlt:j<n
    · obtain ⟨b,off,rfl,hbl,hc⟩:=HB.out.len_pos j (by rw [hl];exact hlt)
      have hs:=hc j (by rw [hl];exact hlt)
      rw [marksI_get k n j hlt] at hs
      have hq:(k+j != k+j)=false:=by simp
      clear hc hl
      go_wp2
      go_round
      case rel=>exact ⟨j+1,by omega,by go_num,by go_num⟩
      case measure=>simp [intOf];omega
    · have hjn:j=n:=by omega
      subst hjn
      go_wp2
      go_ret
      exact ⟨rfl,rfl⟩

theorem markIntS_any (a:Option Addr) (B U cap:Nat) (zs:List Int) (k:Int) (w:World) (h:MinI w B U a cap zs) (hn:zs.length≤2097152) (h0:0≤k) (h1:k≤4194304) :
    Calls Tryz.prog 11 #[.slice a zs.length cap,.int .i64 k] w fun e w'=>e=.returned (.int .i64 (k+zs.length))∧MinI w' B U a cap (marksI k zs.length)∧Only (rowOf a) w w':=by
  rcases h with ⟨rfl,rfl,rfl⟩ | ⟨g,rfl,g1,g2,h⟩
  · go_enter Tryz.func11,Tryz.ntmps11
    go_wp2
    refine wp_loop_rounds 1 ?_
    rw [rounds_succ]
    go_wp2
    go_ret
    exact ⟨by simp,.inl ⟨rfl,rfl,rfl⟩,Only.refl _ _⟩
  · refine (markIntS_own B g cap zs k w h hn h0 h1).mono ?_
    rintro e w' ⟨rfl,ho,hy⟩
    exact ⟨rfl,.inr ⟨g,rfl,g1,g2,ho⟩,hy.mono (fun k _ hk=>⟨_,rfl,hk.symm⟩)⟩

section
variable {w w' : World} {B : Nat} {v : Value} {es : List El}
theorem OVt.letters (h:OVt w B v es) (k:Nat) (hk:k<es.length) (s:El) (hs:s.cells true=(es.getD k de).cells true) (hm:Mine w B w.heap.size (es.getD k de).a (es.getD k de).c (es.getD k de).ls) (ho:Only (rowOf (es.getD k de).a) w w'):OVt w' B v (es.set k s):=by
  have h2:=h.stay ho (fun b hb=>h.other hm hb)
  exact ⟨by rw [List.length_set,flat_setE true es s k hk hs];exact h2.own⟩
end

set_option maxHeartbeats 4000000 in
theorem markItemS_own (a:Option Addr) (cap B:Nat) (ss:List El) (k:Int) (w:World) (h:OVt w B (.slice a ss.length cap) ss) (hd:Deep w B ss) (hn:ss.length+elets ss≤1048576) (h0:0≤k) (h1:k+ss.length+elets ss≤2097152) :
    Calls Tryz.prog 59 #[.slice a ss.length cap,.int .i64 k] w fun e w'=>e=.returned (.int .i64 (k+elets ss+ss.length))∧(OVt w' B (.slice a ss.length cap) (mkE true k ss)∧Deep w' B (mkE true k ss))∧Only (fun b=>(Value.slice a ss.length cap).ownBlock=some b∨∃ s ∈ ss,rowOf s.a b) w w':=by
  have HST:Hid _:=mkE_step true k ss
  have HGE:Hid _:=mkE_rest true k ss
  have HSU:Hid _:=mkA_succ true k ss
  have HLB:Hid _:=mkA_le true k ss
  have HLE:Hid (∀ j,j≤ss.length→(mkE true k (ss.take j)++ss.drop j).length=ss.length):=fun j hj=>by rw [List.length_append,mkE_len,List.length_take,List.length_drop];omega
  have HO:Hid (OVt w B (.slice a ss.length cap) ss∧Deep w B ss):=⟨h,hd⟩
  have HMM:Hid (∀ j,j<ss.length→ss.getD j de ∈ ss∧(ss.getD j de).ls.length≤elets ss):=fun j hj=>⟨getD_memE hj,elets_mem (getD_memE hj)⟩
  clear h hd
  have HFI:Hid (mkE true k (ss.take ss.length)++ss.drop ss.length=mkE true k ss∧mkA true k ss ss.length=k+elets ss+ss.length):=⟨by rw [List.take_length];simp,by rw [mkA_all];simp [eO]⟩
  generalize hlen:ss.length=n at *
  have HL:Hid (ss.length=n∧True):=⟨hlen,trivial⟩
  clear hlen
  generalize hT:elets ss=T at *
  clear hT
  go_enter Tryz.func59,Tryz.ntmps59
  go_wp2
  go_loopw [1,5] (fun q i wr=>∃ (j:Nat) (y:Int),j≤n∧i=.int .i64 j∧q=.int .i64 y∧y=mkA true k ss j∧OVt wr B (.slice a n cap) (mkE true k (ss.take j)++ss.drop j)∧Deep wr B (mkE true k (ss.take j)++ss.drop j)∧Only (fun b=>(Value.slice a n cap).ownBlock=some b∨∃ s ∈ ss,rowOf s.a b) w wr) (fun _ i _=>n - (intOf i).toNat)
  case atStart=>exact ⟨0,k,Nat.zero_le _,rfl,rfl,by simp [mkA,elets],by simpa [mkE] using HO.out.1,by simpa [mkE] using HO.out.2,Only.refl _ _⟩
  case round=>
    clear HO
    obtain ⟨j,y,hj,rfl,rfl,hy,hown,hdeep,honly⟩:=hrel
    have hyb:=HLB.out j hj
    have HY:Hid (y=mkA true k ss j∧True):=⟨hy,trivial⟩
    rw [← hy] at hyb
    have HOW:Hid (OVt wr B (.slice a n cap) (mkE true k (ss.take j)++ss.drop j)∧Deep wr B (mkE true k (ss.take j)++ss.drop j)):=⟨hown,hdeep⟩
    have HON:Hid (Only (fun b=>(Value.slice a n cap).ownBlock=some b∨∃ s ∈ ss,rowOf s.a b) w wr):=honly
    clear hy
    by_cases hjn:j<n
    · obtain ⟨g,cap',e',_,hg2,hfz,hli⟩:=hown.cell j (by rw [HLE.out j hj];exact hjn)
      have hl0:=(hli j (by rw [HLE.out j hj];exact hjn)).c0 rfl
      have hl1:=(hli j (by rw [HLE.out j hj];exact hjn)).c1
      have hmi:=hdeep.mine _ (getD_memE (k:=j) (by rw [HLE.out j hj];exact hjn))
      rw [HGE.out j hjn] at hl0 hl1 hmi
      simp only [eW,eO,cond_true] at hl0 hl1
      obtain ⟨rfl,-,rfl⟩:a=some ⟨g,0,none⟩∧_∧cap=cap':=by simpa using e'
      have f0:=hfz (j * 2)
      have hst:=HST.out j hjn
      rw [← HY.out.1] at hst
      have HSTJ:Hid (_∧True):=⟨hst,trivial⟩
      obtain ⟨HIN,hT2⟩:=HMM.out j hjn
      have HGJ:Hid (_∧True):=⟨HGE.out j hjn,trivial⟩
      have HYN:Hid (mkA true k ss (j+1)=y+1+(ss.getD j de).ls.length∧True):=⟨by rw [HSU.out j hjn,HY.out.1];simp [eO],trivial⟩
      have hlk:j<(mkE true k (ss.take j)++ss.drop j).length:=by rw [HLE.out j hj];exact hjn
      have hlk2:∀ s:El,j<((mkE true k (ss.take j)++ss.drop j).set j s).length:=fun s=>by rw [List.length_set];exact hlk
      have hgs:∀ s:El,((mkE true k (ss.take j)++ss.drop j).set j s).getD j de=s:=fun s=>by rw [getD_setE _ j j _ hlk,if_pos rfl]
      have hR1:=hown.store j hlk { (ss.getD j de) with n:=y } 0 (by simp [eW]) (.int .i64 y) (by rw [HGE.out j hjn];rfl) (g:=g) rfl
      have hon1:Only (fun b=>b=g) wr (wr.setCell ⟨g,j * 2,none⟩ (.int .i64 y)):=(Only.refl (fun b=>b=g) wr).setCell (p:=⟨g,j * 2,none⟩) (.inl rfl) _
      have hD1:=hdeep.stay hon1 (fun x hx b hb e=>hown.other (hdeep.mine x hx) (g:=g) rfl (e ▸ hb))
      have hD2:Deep (wr.setCell ⟨g,j * 2,none⟩ (.int .i64 y)) B ((mkE true k (ss.take j)++ss.drop j).set j { (ss.getD j de) with n:=y }):=by
        refine ⟨fun t ht=>?_,by rw [map_setE _ j _ (by rw [HGE.out j hjn]) hlk];exact hD1.apart⟩
        rcases List.mem_or_eq_of_mem_set ht with ht | rfl
        · exact hD1.mine t ht
        · have:=hD1.mine _ (getD_memE hlk)
          rw [HGE.out j hjn] at this
          exact this
      have hmi1:=hD2.mine _ (getD_memE (hlk2 _))
      rw [hgs] at hmi1
      simp only at hmi1
      rw [show j * eW true+0=j * 2 from by simp [eW]] at hR1
      have HR1:Hid (OVt (wr.setCell ⟨g,j * 2,none⟩ (.int .i64 y)) B (.slice (some ⟨g,0,none⟩) n cap) ((mkE true k (ss.take j)++ss.drop j).set j { (ss.getD j de) with n:=y })∧Deep (wr.setCell ⟨g,j * 2,none⟩ (.int .i64 y)) B ((mkE true k (ss.take j)++ss.drop j).set j { (ss.getD j de) with n:=y })):=⟨hR1,hD2⟩
      have HMI:Hid (Mine (wr.setCell ⟨g,j * 2,none⟩ (.int .i64 y)) B (wr.setCell ⟨g,j * 2,none⟩ (.int .i64 y)).heap.size (ss.getD j de).a (ss.getD j de).c (ss.getD j de).ls):=hmi1
      have HMK:=markByteS_any (ss.getD j de).a B _ (ss.getD j de).c (ss.getD j de).ls (y+1) _ hmi1 (by omega) (by omega) (by have h9:=HLB.out (j+1) (by omega);rw [HYN.out.1] at h9;omega)
      have HIN':Hid (ss.getD j de ∈ ss):=HIN
      have HON1:Hid (Only (fun b=>(Value.slice (some ⟨g,0,none⟩) n cap).ownBlock=some b∨∃ s ∈ ss,rowOf s.a b) w (wr.setCell ⟨g,j * 2,none⟩ (.int .i64 y))):=HON.out.trans (hon1.mono (fun b _ hb=>.inl (by rw [hb];rfl)))
      have HK2:Hid ((∀ s:El,j<((mkE true k (ss.take j)++ss.drop j).set j s).length)∧(∀ s:El,((mkE true k (ss.take j)++ss.drop j).set j s).getD j de=s)):=⟨hlk2,hgs⟩
      clear hst hown hdeep honly hmi hli e' HIN HY hR1 hD1 hD2 hmi1 hon1 hlk hlk2 hgs hfz HON HOW
      generalize hs:ss.getD j de=s at *
      clear hs
      go_wp2_with fail
      refine HMK.mono ?_
      clear HMK
      rintro e w2 ⟨rfl,hm2,ho2⟩
      have hc2:(mk1 true y s).cells true=(((mkE true k (ss.take j)++ss.drop j).set j { s with n:=y }).getD j de).cells true:=by rw [HK2.out.2];simp [mk1,El.cells,marks_len]
      have hR2:=HR1.out.1.letters j (HK2.out.1 _) (mk1 true y s) hc2 (by rw [HK2.out.2];exact HMI.out) (w':=w2) (by rw [HK2.out.2];exact ho2)
      have hD2:=HR1.out.2.letters j (HK2.out.1 _) (mk1 true y s) (by rw [HK2.out.2];rfl) (w':=w2) (by rw [HK2.out.2];exact ho2) (by simpa [mk1,eO] using hm2)
      rw [List.set_set,HSTJ.out.1] at hR2 hD2
      have HN2:Hid _:=And.intro hR2 hD2
      have HO2:Hid (Only (fun b=>(Value.slice (some ⟨g,0,none⟩) n cap).ownBlock=some b∨∃ s ∈ ss,rowOf s.a b) w w2):=HON1.out.trans (ho2.mono (fun b _ hb=>.inr ⟨s,HIN'.out,hb⟩))
      clear hR2 hD2 hc2 ho2 hm2 HMI HGJ HR1 HON1
      go_wp2
      go_roundw
      case rel=>exact ⟨j+1,_,by omega,by go_num,rfl,HYN.out.1.symm,HN2.out.1,HN2.out.2,HO2.out⟩
      case measure=>simp [intOf];omega
    · have hjn2:j=n:=by omega
      subst hjn2
      have HFO:Hid (OVt wr B (.slice a j cap) (mkE true k ss)∧Deep wr B (mkE true k ss)):=by rw [← HFI.out.1];exact HOW.out
      have HYF:Hid (y=k+(T:Nat)+(j:Nat)∧True):=⟨HY.out.1.trans HFI.out.2,trivial⟩
      clear HOW hown hdeep
      go_wp2
      go_ret
      exact ⟨by rw [← HYF.out.1];rfl,HFO.out,HON.out⟩

set_option maxHeartbeats 1000000 in
theorem markPack_own (E O:Int) (a:Option Addr) (cap B:Nat) (ss:List El) (k:Int) (w:World) (h:OVt w B (.slice a ss.length cap) ss) (hd:Deep w B ss) (hn:ss.length+elets ss≤1048576) (h0:0≤k) (h1:k+ss.length+elets ss≤2097152) :
    Calls Tryz.prog 30 #[.agg #[.int .i64 E,.int .i64 O,.slice a ss.length cap],.int .i64 k] w fun e w'=>e=.returned (.int .i64 (k+elets ss+ss.length))∧(OVt w' B (.slice a ss.length cap) (mkE true k ss)∧Deep w' B (mkE true k ss))∧Only (fun b=>(Value.slice a ss.length cap).ownBlock=some b∨∃ s ∈ ss,rowOf s.a b) w w':=by
  have hw:Below w.heap.size w (w.alloc (Obj.cells #[Value.int IntKind.i64 E,Value.int IntKind.i64 O,Value.slice a ss.length cap] 45)):=(Below.refl _ _).alloc (Nat.le_refl _) _
  have HM:=markItemS_own a cap B ss k _ (h.below hw) (hd.below hw) hn h0 h1
  clear h hd
  go_enter Tryz.func30,Tryz.ntmps30
  go_wp2_with fail
  refine HM.mono ?_
  clear HM
  rintro e w1 ⟨rfl,h2,h3⟩
  have HF:Hid ((OVt w1 B (.slice a ss.length cap) (mkE true k ss)∧Deep w1 B (mkE true k ss))∧Only (fun b=>(Value.slice a ss.length cap).ownBlock=some b∨∃ s ∈ ss,rowOf s.a b) w w1):=⟨h2,((Only.refl (fun b=>(Value.slice a ss.length cap).ownBlock=some b∨∃ s ∈ ss,rowOf s.a b) w).alloc _).trans h3⟩
  clear h2 h3 hw
  go_wp2
  go_ret
  exact ⟨rfl,HF.out.1,HF.out.2⟩
theorem markItemS_nil (a:Option Addr) (cap:Nat) (k:Int) (w:World):Calls Tryz.prog 59 #[.slice a 0 cap,.int .i64 k] w fun e w'=>e=.returned (.int .i64 k)∧w'=w:=by
  go_enter Tryz.func59,Tryz.ntmps59
  go_wp2
  go_loopw [1,5] (fun q i wr=>i=.int .i64 0∧q=.int .i64 k∧wr=w) (fun _ _ _=>0)
  case atStart=>exact ⟨rfl,rfl,rfl⟩
  case round=>
    obtain ⟨rfl,rfl,rfl⟩:=hrel
    go_wp2
    go_ret
    exact ⟨rfl,rfl⟩
theorem markPack_nil (E O:Int) (a:Option Addr) (cap:Nat) (k:Int) (w:World):Calls Tryz.prog 30 #[.agg #[.int .i64 E,.int .i64 O,.slice a 0 cap],.int .i64 k] w fun e w'=>e=.returned (.int .i64 k)∧Below w.heap.size w w':=by
  have hw:Below w.heap.size w (w.alloc (Obj.cells #[Value.int IntKind.i64 E,Value.int IntKind.i64 O,Value.slice a 0 cap] 45)):=(Below.refl _ _).alloc (Nat.le_refl _) _
  have HM:=markItemS_nil a cap k (w.alloc (Obj.cells #[Value.int IntKind.i64 E,Value.int IntKind.i64 O,Value.slice a 0 cap] 45))
  go_enter Tryz.func30,Tryz.ntmps30
  go_wp2_with fail
  refine HM.mono ?_
  clear HM
  rintro e w1 ⟨rfl,rfl⟩
  go_wp2
  go_ret
  exact ⟨rfl,hw⟩
theorem markPack_only (E O:Int) (a:Option Addr) (cap B:Nat) (ss:List El) (k:Int) (w:World) (h:OVt w B (.slice a ss.length cap) ss) (hd:Deep w B ss) (hn:ss.length+elets ss≤1048576) (h0:0≤k) (h1:ss.length=0∨k+ss.length+elets ss≤2097152) :
    Calls Tryz.prog 30 #[.agg #[.int .i64 E,.int .i64 O,.slice a ss.length cap],.int .i64 k] w fun e w'=>e=.returned (.int .i64 (k+elets ss+ss.length))∧Only (fun b=>(Value.slice a ss.length cap).ownBlock=some b∨∃ s ∈ ss,rowOf s.a b) w w':=by
  rcases h1 with h1 | h1
  · obtain rfl:ss=[]:=List.eq_nil_of_length_eq_zero h1
    refine (markPack_nil E O a cap k w).mono ?_
    rintro e w1 ⟨rfl,hb⟩
    exact ⟨by simp [elets],Only.ofBelow hb (Nat.le_refl _)⟩
  · exact (markPack_own E O a cap B ss k w h hd hn h0 h1).mono fun e w1 h2=>⟨h2.1,h2.2.2⟩
structure Snp (w W:World) (N U V Z:Nat) (PB PW PX PG:World→Prop):Prop where
  bel:Below w.heap.size w W
  ord:w.heap.size≤N∧N≤U∧U≤V∧V≤Z∧Z≤W.heap.size
  sb:Stab w.heap.size N PB
  hb:PB W
  sw:Stab N U PW
  hw:PW W
  sx:Stab U V PX
  hx:PX W
  sg:Stab V Z PG
  hg:PG W
section
variable {w W W' : World} {N U V Z : Nat} {PB PW PX PG : World → Prop}
theorem Snp.step (h:Snp w W N U V Z PB PW PX PG) (hb:Below W.heap.size W W'):Snp w W' N U V Z PB PW PX PG:=by
  have o:=h.ord;have hs:=hb.size
  have ho:Only (fun _=>False) W W':=Only.ofBelow hb (Nat.le_refl _)
  exact ⟨h.bel.trans (hb.mono (by omega)),by omega,h.sb,h.sb _ _ _ h.hb ho (by simp) (by omega),h.sw,h.sw _ _ _ h.hw ho (by simp) (by omega),h.sx,h.sx _ _ _ h.hx ho (by simp) (by omega),h.sg,h.sg _ _ _ h.hg ho (by simp) (by omega)⟩
theorem Snp.drew (h:Snp w W N U V Z PB PW PX PG) (n:Nat):Snp w (W.drewN n) N U V Z PB PW PX PG:=h.step ⟨rfl,rfl,rfl,Nat.le_refl _,fun _ _=>rfl⟩
theorem Snp.markX {T:Nat→Prop} {PX':World→Prop} (h:Snp w W N U V Z PB PW PX PG) (ho:Only T W W') (hT:∀ k,T k→U≤k∧k<V) (sx:Stab U V PX') (hx:PX' W'):Snp w W' N U V Z PB PW PX' PG:=by
  have o:=h.ord;have hs:=ho.size
  have hbel:Below w.heap.size W W':=ho.below (by omega) (fun k hk=>by have:=hT k hk;omega)
  exact ⟨h.bel.trans hbel,by omega,h.sb,h.sb _ _ _ h.hb ho (fun k h1 h2 hk=>by have:=hT k hk;omega) (by omega),h.sw,h.sw _ _ _ h.hw ho (fun k h1 h2 hk=>by have:=hT k hk;omega) (by omega),sx,hx,h.sg,h.sg _ _ _ h.hg ho (fun k h1 h2 hk=>by have:=hT k hk;omega) (by omega)⟩
theorem Snp.markG {T:Nat→Prop} {PG':World→Prop} (h:Snp w W N U V Z PB PW PX PG) (ho:Only T W W') (hT:∀ k,T k→V≤k∧k<Z) (sg:Stab V Z PG') (hg:PG' W'):Snp w W' N U V Z PB PW PX PG':=by
  have o:=h.ord;have hs:=ho.size
  have hbel:Below w.heap.size W W':=ho.below (by omega) (fun k hk=>by have:=hT k hk;omega)
  exact ⟨h.bel.trans hbel,by omega,h.sb,h.sb _ _ _ h.hb ho (fun k h1 h2 hk=>by have:=hT k hk;omega) (by omega),h.sw,h.sw _ _ _ h.hw ho (fun k h1 h2 hk=>by have:=hT k hk;omega) (by omega),h.sx,h.sx _ _ _ h.hx ho (fun k h1 h2 hk=>by have:=hT k hk;omega) (by omega),sg,hg⟩
end
theorem MinI.rowT {W:World} {B D:Nat} {a:Option Addr} {c:Nat} {zs:List Int} (h:MinI W B D a c zs) {k:Nat} (hk:rowOf a k):B≤k∧k<D:=by
  obtain ⟨x,hx,rfl⟩:=hk
  rcases h with ⟨h',_⟩ | ⟨g,h',g1,g2,_⟩
  · rw [h'] at hx;cases hx
  · rw [h'] at hx
    simp at hx
    rw [← hx]
    exact ⟨g1,g2⟩
theorem Mine.rowT {W:World} {B D:Nat} {a:Option Addr} {c:Nat} {zs:List Int} (h:Mine W B D a c zs) {k:Nat} (hk:rowOf a k):B≤k∧k<D:=by
  obtain ⟨x,hx,rfl⟩:=hk
  rcases h with ⟨h',_⟩ | ⟨g,h',g1,g2,_⟩
  · rw [h'] at hx;cases hx
  · rw [h'] at hx
    simp at hx
    rw [← hx]
    exact ⟨g1,g2⟩
set_option linter.unusedSimpArgs false
theorem Dk10.only {S:Nat→Prop} {W W':World} {b:Nat} {d:DkV} (h:Dk10 W b d) (ho:Only S W W') (hs:¬ S b):Dk10 W' b d:=⟨ho.cell h.lt hs h.c0,ho.cell h.lt hs h.c1,ho.cell h.lt hs h.c2,ho.cell h.lt hs h.c3,ho.cell h.lt hs h.c4,ho.cell h.lt hs h.c5,ho.cell h.lt hs h.c6,ho.cell h.lt hs h.c7,ho.cell h.lt hs h.c8,ho.cell h.lt hs h.c9,Nat.lt_of_lt_of_le h.lt ho.size⟩

set_option maxRecDepth 20000 in
set_option maxHeartbeats 4000000 in
theorem markDisk_any (d:DkV) (B B1 B2 B3 B4 Z:Nat) (w:World) (h:DkO w B B1 B2 B3 B4 Z d) (hZ:Z≤w.heap.size) (hf:DkF d) :
    Calls Tryz.prog 10 #[.agg #[Value.slice d.sa d.ss.length d.sc,Value.slice d.pa d.ps.length d.pc,Value.int IntKind.i64 d.E,Value.int IntKind.i64 d.O,Value.slice d.ma d.ms.length d.mc,Value.slice d.va d.vs.length d.vc,Value.slice d.ca d.cs.length d.cc,Value.int IntKind.i64 d.F,Value.int IntKind.i64 d.G,Value.slice d.oa d.os.length d.oc],.int .i64 1] w fun e w'=>(∃ z:Int,e=.returned (.int .i64 z)∧0≤z)∧Only (fun b=>B≤b∧b<Z) w w':=by
  have hw:Below w.heap.size w (w.alloc (Obj.cells #[Value.slice d.sa d.ss.length d.sc,Value.slice d.pa d.ps.length d.pc,Value.int IntKind.i64 d.E,Value.int IntKind.i64 d.O,Value.slice d.ma d.ms.length d.mc,Value.slice d.va d.vs.length d.vc,Value.slice d.ca d.cs.length d.cc,Value.int IntKind.i64 d.F,Value.int IntKind.i64 d.G,Value.slice d.oa d.os.length d.oc] 47)):=(Below.refl _ _).alloc (Nat.le_refl _) _
  have hx0:=Dk10.new w d 47
  have h0:=(DkO.stab (Nat.le_refl _) (Nat.le_refl _)).below h hw hZ
  have HO0:Hid (Only (fun b=>B≤b∧b<Z) w (w.alloc (Obj.cells #[Value.slice d.sa d.ss.length d.sc,Value.slice d.pa d.ps.length d.pc,Value.int IntKind.i64 d.E,Value.int IntKind.i64 d.O,Value.slice d.ma d.ms.length d.mc,Value.slice d.va d.vs.length d.vc,Value.slice d.ca d.cs.length d.cc,Value.int IntKind.i64 d.F,Value.int IntKind.i64 d.G,Value.slice d.oa d.os.length d.oc] 47))∧Z≤((w.alloc (Obj.cells #[Value.slice d.sa d.ss.length d.sc,Value.slice d.pa d.ps.length d.pc,Value.int IntKind.i64 d.E,Value.int IntKind.i64 d.O,Value.slice d.ma d.ms.length d.mc,Value.slice d.va d.vs.length d.vc,Value.slice d.ca d.cs.length d.cc,Value.int IntKind.i64 d.F,Value.int IntKind.i64 d.G,Value.slice d.oa d.os.length d.oc] 47))).heap.size∧Z≤w.heap.size):=⟨Only.ofBelow hw (Nat.le_refl _),Nat.le_trans hZ hw.size,hZ⟩
  have hord:=h.ord
  have HN:Hid (DkF d):=hf
  have hsum:=hf.sum
  unfold dkN at hsum
  have H1:=markRaw_own d.sa d.pa d.sc d.pc B d.ss d.ps _ h0.raw.o hf.raw
  have HD0:Hid (DkO (w.alloc (Obj.cells #[Value.slice d.sa d.ss.length d.sc,Value.slice d.pa d.ps.length d.pc,Value.int IntKind.i64 d.E,Value.int IntKind.i64 d.O,Value.slice d.ma d.ms.length d.mc,Value.slice d.va d.vs.length d.vc,Value.slice d.ca d.cs.length d.cc,Value.int IntKind.i64 d.F,Value.int IntKind.i64 d.G,Value.slice d.oa d.os.length d.oc] 47)) B B1 B2 B3 B4 Z d):=h0
  clear h h0 hf hw hZ
  go_enter Tryz.func10,Tryz.ntmps10
  go_wp2_with fail
  generalize (w.alloc (Obj.cells #[Value.slice d.sa d.ss.length d.sc,Value.slice d.pa d.ps.length d.pc,Value.int IntKind.i64 d.E,Value.int IntKind.i64 d.O,Value.slice d.ma d.ms.length d.mc,Value.slice d.va d.vs.length d.vc,Value.slice d.ca d.cs.length d.cc,Value.int IntKind.i64 d.F,Value.int IntKind.i64 d.G,Value.slice d.oa d.os.length d.oc] 47))=W0 at *
  refine H1.mono ?_
  clear H1
  rintro e w1 ⟨rfl,-,ho1⟩
  have hT1:∀ k,blkR (.slice d.sa d.ss.length d.sc) (.slice d.pa d.ps.length d.pc) d.ss d.ps k→B≤k∧k<B1:=fun k hk=>⟨(HD0.out.raw.o.inside k hk).1,HD0.out.raw.r k hk⟩
  have hx1:=hx0.only ho1 (fun hk=>by have:=hT1 _ hk;have:=HO0.out.2.2;omega)
  have HO1:Hid (Only (fun b=>B≤b∧b<Z) w w1∧Z≤w1.heap.size∧Z≤w.heap.size):=⟨HO0.out.1.trans (ho1.mono (fun k _ hk=>by have:=hT1 k hk;omega)),Nat.le_trans HO0.out.2.1 ho1.size,HO0.out.2.2⟩
  have HD1:Hid (MinP w1 B1 B2 d.ma d.mc d.ms∧MinP w1 B2 B3 d.va d.vc d.vs∧MinI w1 B3 B4 d.ca d.cc d.cs∧CopV w1 B4 Z (.slice d.oa d.os.length d.oc) d.os d.os):=by
    have hz:=HO0.out.2.1
    exact ⟨stab_minP (lo:=B1) (hi:=Z) (by omega) (by omega) _ _ _ HD0.out.map ho1 (fun k h1 h2 hk=>by have:=hT1 k hk;omega) hz,stab_minP (lo:=B1) (hi:=Z) (by omega) (by omega) _ _ _ HD0.out.sav ho1 (fun k h1 h2 hk=>by have:=hT1 k hk;omega) hz,Stab.minI (lo:=B1) (hi:=Z) (by omega) (by omega) _ _ _ HD0.out.chn ho1 (fun k h1 h2 hk=>by have:=hT1 k hk;omega) hz,CopV.stab (lo:=B1) (hi:=Z) (by omega) (by omega) _ _ _ HD0.out.opn ho1 (fun k h1 h2 hk=>by have:=hT1 k hk;omega) hz⟩
  have hk1:0≤mkN d.ss d.ps∧mkN d.ss d.ps≤2097152:=by unfold mkN;omega
  have HK1:Hid (mkN d.ss d.ps=1+elets d.ss+elets d.ps+d.ps.length):=rfl
  generalize mkN d.ss d.ps=k1 at *
  clear ho1 hT1 hx0 HO0 HD0
  obtain ⟨x0,x1,x2,x3,x4,x5,x6,x7,x8,x9,xl⟩:=id hx1
  have H2:=markMap_any d.ma B1 B2 d.mc d.ms k1 w1 HD1.out.1 (by have:=HO1.out.2.1;omega) HN.out.ms hk1.1 (by omega)
  go_wp2_with fail
  clear x0 x1 x2 x3 x4 x5 x6 x7 x8 x9 xl
  refine H2.mono ?_
  clear H2
  rintro e w2 ⟨rfl,hm2,ho2⟩
  have hT2:∀ k,rowOf d.ma k→B1≤k∧k<B2:=fun k hk=>hm2.row hk
  have hx2:=hx1.only ho2 (fun hk=>by have:=hT2 _ hk;have:=HO1.out.2.2;omega)
  have HO2:Hid (Only (fun b=>B≤b∧b<Z) w w2∧Z≤w2.heap.size∧Z≤w.heap.size):=⟨HO1.out.1.trans (ho2.mono (fun k _ hk=>by have:=hT2 k hk;omega)),Nat.le_trans HO1.out.2.1 ho2.size,HO1.out.2.2⟩
  have HD2:Hid (MinP w2 B2 B3 d.va d.vc d.vs∧MinI w2 B3 B4 d.ca d.cc d.cs∧CopV w2 B4 Z (.slice d.oa d.os.length d.oc) d.os d.os):=by
    have hz:=HO1.out.2.1
    exact ⟨stab_minP (lo:=B2) (hi:=Z) (by omega) (by omega) _ _ _ HD1.out.2.1 ho2 (fun k h1 h2 hk=>by have:=hT2 k hk;omega) hz,Stab.minI (lo:=B2) (hi:=Z) (by omega) (by omega) _ _ _ HD1.out.2.2.1 ho2 (fun k h1 h2 hk=>by have:=hT2 k hk;omega) hz,CopV.stab (lo:=B2) (hi:=Z) (by omega) (by omega) _ _ _ HD1.out.2.2.2 ho2 (fun k h1 h2 hk=>by have:=hT2 k hk;omega) hz⟩
  obtain ⟨k2,hk2⟩:∃ k2:Int,k2=k1+(d.ms.length * 2:Nat):=⟨_,rfl⟩
  rw [← hk2]
  have hk2b:0≤k2∧k2≤4194304:=by have:=HK1.out;omega
  have HK2:Hid (k2=1+elets d.ss+elets d.ps+d.ps.length+2 * (d.ms.length:Int)):=by have:=HK1.out;exact (by omega:k2=1+elets d.ss+elets d.ps+d.ps.length+2 * (d.ms.length:Int))
  clear ho2 hT2 hm2 hx1 HO1 HD1 hk1 hk2 HK1
  obtain ⟨x0,x1,x2,x3,x4,x5,x6,x7,x8,x9,xl⟩:=id hx2
  have H3:=markMap_any d.va B2 B3 d.vc d.vs k2 w2 HD2.out.1 (by have:=HO2.out.2.1;omega) HN.out.vs hk2b.1 hk2b.2
  go_wp2_with fail
  clear x0 x1 x2 x3 x4 x5 x6 x7 x8 x9 xl
  refine H3.mono ?_
  clear H3
  rintro e w3 ⟨rfl,hm3,ho3⟩
  have hT3:∀ k,rowOf d.va k→B2≤k∧k<B3:=fun k hk=>hm3.row hk
  have hx3:=hx2.only ho3 (fun hk=>by have:=hT3 _ hk;have:=HO2.out.2.2;omega)
  have HO3:Hid (Only (fun b=>B≤b∧b<Z) w w3∧Z≤w3.heap.size∧Z≤w.heap.size):=⟨HO2.out.1.trans (ho3.mono (fun k _ hk=>by have:=hT3 k hk;omega)),Nat.le_trans HO2.out.2.1 ho3.size,HO2.out.2.2⟩
  have HD3:Hid (MinI w3 B3 B4 d.ca d.cc d.cs∧CopV w3 B4 Z (.slice d.oa d.os.length d.oc) d.os d.os):=by
    have hz:=HO2.out.2.1
    exact ⟨Stab.minI (lo:=B3) (hi:=Z) (by omega) (by omega) _ _ _ HD2.out.2.1 ho3 (fun k h1 h2 hk=>by have:=hT3 k hk;omega) hz,CopV.stab (lo:=B3) (hi:=Z) (by omega) (by omega) _ _ _ HD2.out.2.2 ho3 (fun k h1 h2 hk=>by have:=hT3 k hk;omega) hz⟩
  obtain ⟨k3,hk3⟩:∃ k3:Int,k3=k2+(d.vs.length * 2:Nat):=⟨_,rfl⟩
  rw [← hk3]
  have HK3:Hid (k3=1+elets d.ss+elets d.ps+d.ps.length+2 * (d.ms.length:Int)+2 * (d.vs.length:Int)):=by have:=HK2.out;exact (by omega:k3=1+elets d.ss+elets d.ps+d.ps.length+2 * (d.ms.length:Int)+2 * (d.vs.length:Int))
  have hk3b:0≤k3∧k3≤4194304:=by have:=HK3.out;omega
  clear ho3 hT3 hm3 hx2 HO2 HD2 hk2b HK2 hk3
  obtain ⟨x0,x1,x2,x3,x4,x5,x6,x7,x8,x9,xl⟩:=id hx3
  have H4:=markIntS_any d.ca B3 B4 d.cc d.cs k3 w3 HD3.out.1 (by have:=HN.out.cs;omega) hk3b.1 hk3b.2
  go_wp2_with fail
  clear x0 x1 x2 x3 x4 x5 x6 x7 x8 x9 xl
  refine H4.mono ?_
  clear H4
  rintro e w4 ⟨rfl,hm4,ho4⟩
  have hT4:∀ k,rowOf d.ca k→B3≤k∧k<B4:=fun k hk=>hm4.rowT hk
  have hx4:=hx3.only ho4 (fun hk=>by have:=hT4 _ hk;have:=HO3.out.2.2;omega)
  have HO4:Hid (Only (fun b=>B≤b∧b<Z) w w4∧Z≤w4.heap.size∧Z≤w.heap.size):=⟨HO3.out.1.trans (ho4.mono (fun k _ hk=>by have:=hT4 k hk;omega)),Nat.le_trans HO3.out.2.1 ho4.size,HO3.out.2.2⟩
  have HD4:Hid (CopV w4 B4 Z (.slice d.oa d.os.length d.oc) d.os d.os∧True):=by
    have hz:=HO3.out.2.1
    exact ⟨CopV.stab (lo:=B4) (hi:=Z) (by omega) (by omega) _ _ _ HD3.out.2 ho4 (fun k h1 h2 hk=>by have:=hT4 k hk;omega) hz,trivial⟩
  obtain ⟨k4,hk4⟩:∃ k4:Int,k4=k3+d.cs.length:=⟨_,rfl⟩
  rw [← hk4]
  have HK4:Hid (k4=1+elets d.ss+elets d.ps+d.ps.length+2 * (d.ms.length:Int)+2 * (d.vs.length:Int)+d.cs.length):=by have:=HK3.out;exact (by omega:k4=1+elets d.ss+elets d.ps+d.ps.length+2 * (d.ms.length:Int)+2 * (d.vs.length:Int)+d.cs.length)
  have hk4b:0≤k4:=by have:=HK4.out;omega
  have hk4c:d.os.length=0∨k4+d.os.length+elets d.os≤2097152:=by have:=HK4.out;omega
  clear ho4 hT4 hm4 hx3 HO3 HD3 hk3b HK3 hk4
  obtain ⟨x0,x1,x2,x3,x4,x5,x6,x7,x8,x9,xl⟩:=id hx4
  have H5:=markPack_only d.F d.G d.oa d.oc B4 d.os k4 w4 HD4.out.1.cop.row HD4.out.1.cop.deep HN.out.opn.sum hk4b hk4c
  go_wp2_with fail
  clear x0 x1 x2 x3 x4 x5 x6 x7 x8 x9 xl
  refine H5.mono ?_
  clear H5
  rintro e w5 ⟨rfl,ho5⟩
  have hT5:∀ k,((Value.slice d.oa d.os.length d.oc).ownBlock=some k∨∃ s ∈ d.os,rowOf s.a k)→B4≤k∧k<Z:=fun k hk=>by
    rcases hk with hk | ⟨s,hs,hk⟩
    · exact ⟨(HD4.out.1.cop.row.blk hk).1,HD4.out.1.r k hk⟩
    · exact ⟨((HD4.out.1.cop.deep.mine s hs).rowE hk).1,HD4.out.1.d s hs k hk⟩
  have HF:Hid (Only (fun b=>B≤b∧b<Z) w w5):=HO4.out.1.trans (ho5.mono (fun k _ hk=>by have:=hT5 k hk;omega))
  obtain ⟨k5,hk5⟩:∃ k5:Int,k5=k4+(elets d.os:Nat)+(d.os.length:Nat):=⟨_,rfl⟩
  rw [← hk5]
  have hk5b:0≤k5:=by omega
  clear ho5 hT5 HO4 HD4 hk5 hk4c hk4b HK4 hx4
  go_wp2
  go_ret
  exact ⟨⟨k5,rfl,hk5b⟩,HF.out⟩
set_option maxHeartbeats 800000 in
theorem szIntS_left (a:Option Addr) (n cap:Nat) (left:Int) (w:World) (hm:n≤maxLen) (h0:0≤left) (h1:left≤1048576) :
    Calls Tryz.prog 15 #[.slice a n cap,.int .i64 left] w fun e w'=>(∃ z:Int,e=.returned (.int .i64 z)∧(z=-1∨(0≤z∧z≤left∧z+n=left)))∧w'=w:=by
  unfold maxLen at hm
  by_cases h:(n:Int)≤left
  · go_enter Tryz.func15,Tryz.ntmps15
    go_wp2
    go_ret
    exact ⟨⟨left - n,by go_num,.inr ⟨by omega,by omega,by omega⟩⟩,rfl⟩
  · go_enter Tryz.func15,Tryz.ntmps15
    go_wp2
    go_ret
    exact ⟨⟨-1,rfl,.inl rfl⟩,rfl⟩

set_option maxHeartbeats 800000 in
theorem szPlaceS_left (a:Option Addr) (n cap:Nat) (left:Int) (w:World) (hm:n≤maxLen) (h0:0≤left) (h1:left≤1048576) :
    Calls Tryz.prog 33 #[.slice a n cap,.int .i64 left] w fun e w'=>(∃ z:Int,e=.returned (.int .i64 z)∧(z=-1∨(0≤z∧z≤left∧z+n=left)))∧w'=w:=by
  unfold maxLen at hm
  by_cases h:(n:Int)≤left
  · go_enter Tryz.func33,Tryz.ntmps33
    go_wp2
    go_ret
    exact ⟨⟨left - n,by go_num,.inr ⟨by omega,by omega,by omega⟩⟩,rfl⟩
  · go_enter Tryz.func33,Tryz.ntmps33
    go_wp2
    go_ret
    exact ⟨⟨-1,rfl,.inl rfl⟩,rfl⟩

set_option maxHeartbeats 800000 in
theorem szMap_left (a:Option Addr) (n cap:Nat) (left:Int) (w:World) (hm:n≤maxLen) (h0:0≤left) (h1:left≤1048576) :
    Calls Tryz.prog 14 #[.agg #[.slice a n cap],.int .i64 left] w fun e w'=>(∃ z:Int,e=.returned (.int .i64 z)∧(z=-1∨(0≤z∧z≤left∧z+n=left)))∧Below w.heap.size w w':=by
  have hw:Below w.heap.size w (w.alloc (Obj.cells #[Value.slice a n cap] 28)):=(Below.refl _ _).alloc (Nat.le_refl _) _
  have HS:=szPlaceS_left a n cap left (w.alloc (Obj.cells #[Value.slice a n cap] 28)) hm h0 h1
  clear hm
  go_enter Tryz.func14,Tryz.ntmps14
  go_wp2_with fail
  refine HS.mono ?_
  clear HS
  rintro e w1 ⟨⟨z,rfl,hz⟩,rfl⟩
  rcases hz with rfl | ⟨hz0,hz1,hz2⟩
  · go_wp2
    go_ret
    exact ⟨⟨-1,rfl,.inl rfl⟩,hw⟩
  · have HZ:Hid (z+(n:Int)=left∧True):=⟨hz2,trivial⟩
    clear hz2
    go_wp2
    go_ret
    exact ⟨⟨z,rfl,.inr ⟨hz0,hz1,HZ.out.1⟩⟩,hw⟩

set_option maxHeartbeats 1600000 in
theorem szRaw_left (sa pa:Option Addr) (sc pc:Nat) (ss ps:List El) (w:World) (hb:RawI w sa pa ss ps) (hm1:ss.length≤maxLen) (hm2:ps.length≤maxLen) :
    Calls Tryz.prog 13 #[.agg #[.slice sa ss.length sc,.slice pa ps.length pc],.int .i64 1048576] w fun e w'=>(∃ z:Int,e=.returned (.int .i64 z)∧(z=-1∨(0≤z∧z≤1048576∧z+ss.length+elets ss+ps.length+elets ps=1048576)))∧Below w.heap.size w w':=by
  have HB:Hid (RawI w sa pa ss ps):=hb
  have HM:Hid (ss.length≤maxLen∧ps.length≤maxLen):=⟨hm1,hm2⟩
  unfold maxLen at hm1 hm2
  clear hb
  go_enter Tryz.func13,Tryz.ntmps13
  go_wp2_with fail
  have hw:Below w.heap.size w (w.alloc (Obj.cells #[Value.slice sa ss.length sc,Value.slice pa ps.length pc] 25)):=(Below.refl _ _).alloc (Nat.le_refl _) _
  refine (szByteSS_any sa sc ss 1048576 _ (HB.out.1.below hw (Nat.le_refl _)) HM.out.1 (by omega) (by omega)).mono ?_
  rintro e w1 ⟨⟨z,rfl,hz⟩,rfl⟩
  rcases hz with rfl | ⟨hz0,hz1,hz2⟩
  · go_wp2
    go_ret
    exact ⟨⟨-1,rfl,.inl rfl⟩,hw⟩
  · have HZ:Hid (z+(ss.length:Int)+elets ss=1048576∧True):=⟨hz2,trivial⟩
    clear hz2
    go_wp2_with fail
    refine (szPendS_any pa pc ps z _ (HB.out.2.below hw (Nat.le_refl _)) HM.out.2 hz0 hz1).mono ?_
    rintro e w2 ⟨⟨y,rfl,hy⟩,hb2⟩
    have HB2:Hid (Below w.heap.size w w2):=hw.trans (hb2.mono (by simp))
    clear hw hb2
    rcases hy with rfl | ⟨hy0,hy1,hy2⟩
    · go_wp2
      go_ret
      exact ⟨⟨-1,rfl,.inl rfl⟩,HB2.out⟩
    · have HF:Hid (y≤1048576∧y+(ss.length:Int)+elets ss+ps.length+elets ps=1048576):=by
        have:=HZ.out.1
        exact ⟨by omega,by omega⟩
      clear hy2 HZ
      go_wp2
      go_ret
      exact ⟨⟨y,rfl,.inr ⟨hy0,HF.out⟩⟩,HB2.out⟩

set_option maxRecDepth 20000 in
set_option maxHeartbeats 4000000 in
theorem szDisk_any (d:DkV) (w:World) (hb:DkI w d) (hm:DkM d) :
    Calls Tryz.prog 4 #[.agg #[Value.slice d.sa d.ss.length d.sc,Value.slice d.pa d.ps.length d.pc,Value.int IntKind.i64 d.E,Value.int IntKind.i64 d.O,Value.slice d.ma d.ms.length d.mc,Value.slice d.va d.vs.length d.vc,Value.slice d.ca d.cs.length d.cc,Value.int IntKind.i64 d.F,Value.int IntKind.i64 d.G,Value.slice d.oa d.os.length d.oc],.int .i64 1048576] w fun e w'=>(∃ z:Int,e=.returned (.int .i64 z)∧(z=-1∨(0≤z∧DkF d)))∧Below w.heap.size w w':=by
  have hw:Below w.heap.size w (w.alloc (Obj.cells #[Value.slice d.sa d.ss.length d.sc,Value.slice d.pa d.ps.length d.pc,Value.int IntKind.i64 d.E,Value.int IntKind.i64 d.O,Value.slice d.ma d.ms.length d.mc,Value.slice d.va d.vs.length d.vc,Value.slice d.ca d.cs.length d.cc,Value.int IntKind.i64 d.F,Value.int IntKind.i64 d.G,Value.slice d.oa d.os.length d.oc] 34)):=(Below.refl _ _).alloc (Nat.le_refl _) _
  have hx:=Dk10.new w d 34
  have H1:=szRaw_left d.sa d.pa d.sc d.pc d.ss d.ps _ (hb.raw.below hw (Nat.le_refl _)) hm.ss hm.ps
  have HB:Hid (DkI w d∧DkM d):=⟨hb,hm⟩
  clear hb hm
  go_enter Tryz.func4,Tryz.ntmps4
  go_wp2_with fail
  generalize w.alloc (Obj.cells #[Value.slice d.sa d.ss.length d.sc,Value.slice d.pa d.ps.length d.pc,Value.int IntKind.i64 d.E,Value.int IntKind.i64 d.O,Value.slice d.ma d.ms.length d.mc,Value.slice d.va d.vs.length d.vc,Value.slice d.ca d.cs.length d.cc,Value.int IntKind.i64 d.F,Value.int IntKind.i64 d.G,Value.slice d.oa d.os.length d.oc] 34)=W0 at *
  refine H1.mono ?_
  clear H1
  rintro e w1 ⟨⟨z1,rfl,hz1⟩,hb1⟩
  have HW1:Hid (Below w.heap.size w w1):=hw.trans (hb1.mono hw.size)
  have hx1:=hx.step hb1
  clear hb1 hw hx
  rcases hz1 with rfl | hz1
  · go_wp2
    go_ret
    exact ⟨⟨-1,rfl,.inl rfl⟩,HW1.out⟩
  have hzn1:¬ z1<0:=by omega
  obtain ⟨x0,x1,x2,x3,x4,x5,x6,x7,x8,x9,xl⟩:=id hx1
  have H2:=szMap_left d.ma d.ms.length d.mc z1 w1 HB.out.2.ms hz1.1 (by omega)
  go_wp2_with fail
  refine H2.mono ?_
  clear H2
  rintro e w2 ⟨⟨z2,rfl,hz2⟩,hb2⟩
  have HW2:Hid (Below w.heap.size w w2):=HW1.out.trans (hb2.mono HW1.out.size)
  have hx2:=hx1.step hb2
  clear hb2 HW1 hx1
  clear x0 x1 x2 x3 x4 x5 x6 x7 x8 x9 xl
  rcases hz2 with rfl | hz2
  · go_wp2
    go_ret
    exact ⟨⟨-1,rfl,.inl rfl⟩,HW2.out⟩
  have hzn2:¬ z2<0:=by omega
  obtain ⟨x0,x1,x2,x3,x4,x5,x6,x7,x8,x9,xl⟩:=id hx2
  have H3:=szMap_left d.va d.vs.length d.vc z2 w2 HB.out.2.vs hz2.1 (by omega)
  go_wp2_with fail
  refine H3.mono ?_
  clear H3
  rintro e w3 ⟨⟨z3,rfl,hz3⟩,hb3⟩
  have HW3:Hid (Below w.heap.size w w3):=HW2.out.trans (hb3.mono HW2.out.size)
  have hx3:=hx2.step hb3
  clear hb3 HW2 hx2
  clear x0 x1 x2 x3 x4 x5 x6 x7 x8 x9 xl
  rcases hz3 with rfl | hz3
  · go_wp2
    go_ret
    exact ⟨⟨-1,rfl,.inl rfl⟩,HW3.out⟩
  have hzn3:¬ z3<0:=by omega
  obtain ⟨x0,x1,x2,x3,x4,x5,x6,x7,x8,x9,xl⟩:=id hx3
  have H4:=szIntS_left d.ca d.cs.length d.cc z3 w3 HB.out.2.cs hz3.1 (by omega)
  go_wp2_with fail
  refine H4.mono ?_
  clear H4
  rintro e w4 ⟨⟨z4,rfl,hz4⟩,rfl⟩
  rcases hz4 with rfl | hz4
  · go_wp2
    go_ret
    exact ⟨⟨-1,rfl,.inl rfl⟩,HW3.out⟩
  have hzn4:¬ z4<0:=by omega
  have H5:=szPack_any d.F d.G d.oa d.oc d.os _ (HB.out.1.opn.below HW3.out (Nat.le_refl _)) HB.out.2.os z4 hz4.1 (by omega)
  go_wp2_with fail
  refine H5.mono ?_
  clear H5
  rintro e w5 ⟨⟨z5,rfl,hz5⟩,hb5⟩
  have HW5:Hid (Below w.heap.size w w5):=HW3.out.trans (hb5.mono HW3.out.size)
  have hx5:=hx3.step hb5
  clear hb5 HW3 hx3
  clear x0 x1 x2 x3 x4 x5 x6 x7 x8 x9 xl
  rcases hz5 with rfl | hz5
  · go_wp2
    go_ret
    exact ⟨⟨-1,rfl,.inl rfl⟩,HW5.out⟩
  have hzn5:¬ z5<0:=by omega
  have HF:Hid (DkF d):=DkF.mk' (by unfold dkN;omega)
  have h50:=hz5.1
  clear hz1 hz2 hz3 hz4 hz5
  go_wp2
  go_ret
  exact ⟨⟨z5,rfl,.inr ⟨h50,HF.out⟩⟩,HW5.out⟩
end Go.Proofs.YtbapdnhmodklbaaGreatDoor
