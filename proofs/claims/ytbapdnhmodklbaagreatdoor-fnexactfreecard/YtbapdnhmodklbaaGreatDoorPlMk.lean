/-
  What writing marks into a row of places does, and that they are found again.
-/
import Derived.Test.YtbapdnhmodklbaaGreatDoorItP
import Derived.Test.YtbapdnhmodklbaaGreatDoorMkB
import Derived.Test.YtbapdnhmodklbaaGreatDoorElSz
import Derived.Test.YtbapdnhmodklbaaGreatDoorDkW
namespace Go.Proofs.YtbapdnhmodklbaaGreatDoor
open Go.RowKit
set_option linter.unusedVariables false

theorem getD_setE (ss:List El) (k i:Nat) (s:El) (hk:k<ss.length):(ss.set k s).getD i de=if i=k then s else ss.getD i de:=by
  by_cases h:i=k
  · subst h
    rw [if_pos rfl,List.getD_eq_getElem?_getD,List.getElem?_set_self hk];rfl
  · rw [if_neg h]
    simp only [List.getD_eq_getElem?_getD,List.getElem?_set_ne (Ne.symm h)]
theorem map_setE (ss:List El) (k:Nat) (s:El) (h:s.a=(ss.getD k de).a) (hk:k<ss.length):(ss.set k s).map El.a=ss.map El.a:=by
  apply List.ext_getElem?
  intro i
  rw [List.getElem?_map,List.getElem?_map,List.getElem?_set]
  by_cases e:k=i
  · subst e
    rw [if_pos rfl,if_pos hk,List.getElem?_eq_getElem hk]
    simp only [Option.map_some,h,List.getD_eq_getElem?_getD,List.getElem?_eq_getElem hk,Option.getD_some]
  · rw [if_neg e]
theorem flat_setE (p:Bool) (ss:List El) (s:El):∀ k,k<ss.length→s.cells p=(ss.getD k de).cells p→(ss.set k s).flatMap (El.cells p)=ss.flatMap (El.cells p):=by
  induction ss with
  | nil => intro k hk; simp at hk
  | cons x ss ih =>
    intro k hk hs
    cases k with
    | zero =>
      have hs':s.cells p=x.cells p:=hs
      rw [List.set_cons_zero,List.flatMap_cons,List.flatMap_cons,hs']
    | succ k => rw [List.set_cons_succ, List.flatMap_cons, List.flatMap_cons, ih k (by simpa using hk) hs]
section
variable {w w' : World} {B : Nat} {es : List El}
theorem apart_ne {es:List El} (h:(es.map El.a).Pairwise (fun x y=>∀ k,rowOf x k→¬ rowOf y k)) {i j:Nat} (hi:i<es.length) (hj:j<es.length) (hij:i≠j):∀ k,rowOf (es.getD i de).a k→¬ rowOf (es.getD j de).a k:=by
  intro k h1 h2
  rw [List.pairwise_iff_getElem] at h
  have gi:(es.getD i de)=es[i]:=by rw [List.getD_eq_getElem?_getD,List.getElem?_eq_getElem hi];rfl
  have gj:(es.getD j de)=es[j]:=by rw [List.getD_eq_getElem?_getD,List.getElem?_eq_getElem hj];rfl
  rw [gi] at h1
  rw [gj] at h2
  rcases Nat.lt_or_gt_of_ne hij with h3 | h3
  · have:=h i j (by simpa using hi) (by simpa using hj) h3 k
    simp only [List.getElem_map] at this
    exact this h1 h2
  · have:=h j i (by simpa using hj) (by simpa using hi) h3 k
    simp only [List.getElem_map] at this
    exact this h2 h1
theorem Deep.letters (h:Deep w B es) (k:Nat) (hk:k<es.length) (s:El) (ha:s.a=(es.getD k de).a) (ho:Only (rowOf (es.getD k de).a) w w') (hm:Mine w' B w.heap.size s.a s.c s.ls):Deep w' B (es.set k s):=by
  refine ⟨?_,?_⟩
  · intro t ht
    obtain ⟨i,hi,rfl⟩:=memE_get ht
    rw [List.length_set] at hi
    rw [getD_setE es k i _ hk]
    by_cases hik:i=k
    · rw [if_pos hik]
      exact hm.mono (Nat.le_refl _) ho.size
    · rw [if_neg hik]
      exact ((h.mine _ (getD_memE hi)).stay ho (fun b hb=>apart_ne h.apart hi hk hik b hb)).mono (Nat.le_refl _) ho.size
  · rw [map_setE es k s ha hk]
    exact h.apart
theorem Deep.parts {ss ps:List El} (h:Deep w B (ss++ps)):Deep w B ss∧Deep w B ps∧∀ x ∈ ss.map El.a,∀ y ∈ ps.map El.a,∀ k,rowOf x k→¬ rowOf y k:=by
  have h1:=h.apart
  rw [List.map_append,List.pairwise_append] at h1
  exact ⟨⟨fun e he=>h.mine e (List.mem_append_left _ he),h1.1⟩,⟨fun e he=>h.mine e (List.mem_append_right _ he),h1.2.1⟩,h1.2.2⟩
theorem Deep.join {ss ps:List El} (h1:Deep w B ss) (h2:Deep w B ps) (h3:∀ x ∈ ss.map El.a,∀ y ∈ ps.map El.a,∀ k,rowOf x k→¬ rowOf y k):Deep w B (ss++ps):=by
  refine ⟨fun e he=>(List.mem_append.1 he).elim (h1.mine e) (h2.mine e),?_⟩
  rw [List.map_append,List.pairwise_append]
  exact ⟨h1.apart,h2.apart,h3⟩
end

def mkE (p:Bool):Int→List El→List El
  | _, [] => []
  | k, s :: ss => { s with n := cond p k s.n, ls := marks (k + eO p) s.ls.length } :: mkE p (k + eO p + s.ls.length) ss
theorem mkE_len (p:Bool) (k:Int) (ss:List El):(mkE p k ss).length=ss.length:=by
  induction ss generalizing k with
  | nil => rfl
  | cons s ss ih => simp [mkE, ih]
theorem mkE_a (p:Bool) (k:Int) (ss:List El):(mkE p k ss).map El.a=ss.map El.a:=by
  induction ss generalizing k with
  | nil => rfl
  | cons s ss ih => simp [mkE, ih]
theorem mkE_app (p:Bool) (k:Int) (a b:List El):mkE p k (a++b)=mkE p k a++mkE p (k+elets a+a.length * eO p) b:=by
  induction a generalizing k with
  | nil => simp [mkE, elets]
  | cons s a ih =>
    simp only [List.cons_append,mkE,ih,elets,List.length_cons]
    congr 3
    cases p <;> simp [eO] <;> omega
def mk1 (p:Bool) (k:Int) (s:El):El:={ s with n:=cond p k s.n,ls:=marks (k+eO p) s.ls.length }
def mkA (p:Bool) (k:Int) (ss:List El) (j:Nat):Int:=k+elets (ss.take j)+j * eO p
theorem mkE_step (p:Bool) (k:Int) (ss:List El) (j:Nat) (h:j<ss.length):(mkE p k (ss.take j)++ss.drop j).set j (mk1 p (mkA p k ss j) (ss.getD j de))=mkE p k (ss.take (j+1))++ss.drop (j+1):=by
  have hl:(mkE p k (ss.take j)).length=j:=by rw [mkE_len,List.length_take];omega
  rw [List.set_append_right _ _ (by omega),hl,Nat.sub_self,List.drop_eq_getElem_cons h,List.set_cons_zero,List.take_succ_eq_append_getElem h,mkE_app,List.append_assoc]
  congr 1
  have e:ss.getD j de=ss[j]:=by rw [List.getD_eq_getElem?_getD,List.getElem?_eq_getElem h];rfl
  rw [e,show (ss.take j).length=j from by rw [List.length_take];omega]
  rfl
theorem mkE_rest (p:Bool) (k:Int) (ss:List El) (j:Nat) (h:j<ss.length):(mkE p k (ss.take j)++ss.drop j).getD j de=ss.getD j de:=by
  have hl:(mkE p k (ss.take j)).length=j:=by rw [mkE_len,List.length_take];omega
  rw [List.getD_eq_getElem?_getD,List.getElem?_append_right (by omega),hl,Nat.sub_self,List.drop_eq_getElem_cons h,List.getElem?_cons_zero,List.getD_eq_getElem?_getD,List.getElem?_eq_getElem h]
theorem mkE_get (p:Bool) (k:Int) (ss:List El) (j:Nat) (h:j<ss.length):(mkE p k ss).getD j de=mk1 p (mkA p k ss j) (ss.getD j de):=by
  have e:mkE p k ss=mkE p k (ss.take (j+1))++mkE p (k+elets (ss.take (j+1))+(ss.take (j+1)).length * eO p) (ss.drop (j+1)):=by rw [← mkE_app,List.take_append_drop]
  have hl:(mkE p k (ss.take (j+1))).length=j+1:=by rw [mkE_len,List.length_take];omega
  rw [e,List.getD_eq_getElem?_getD,List.getElem?_append_left (by omega),← List.getD_eq_getElem?_getD]
  have h2:=mkE_step p k ss j h
  have h3:((mkE p k (ss.take (j+1))++ss.drop (j+1))).getD j de=(mkE p k (ss.take (j+1))).getD j de:=by
    rw [List.getD_eq_getElem?_getD,List.getElem?_append_left (by omega),← List.getD_eq_getElem?_getD]
  rw [← h3,← h2,getD_setE _ j j _ (by rw [List.length_append,mkE_len,List.length_take,List.length_drop];omega),if_pos rfl]
theorem mkA_succ (p:Bool) (k:Int) (ss:List El) (j:Nat) (h:j<ss.length):mkA p k ss (j+1)=mkA p k ss j+eO p+(ss.getD j de).ls.length:=by
  unfold mkA
  rw [elets_take_succ ss j h]
  cases p <;> simp [eO] <;> omega
theorem mkA_all (p:Bool) (k:Int) (ss:List El):mkA p k ss ss.length=k+elets ss+ss.length * eO p:=by unfold mkA;rw [List.take_length]
theorem mkA_le (p:Bool) (k:Int) (ss:List El) (j:Nat) (h:j≤ss.length):k≤mkA p k ss j∧mkA p k ss j≤k+elets ss+ss.length:=by
  unfold mkA
  have:=elets_take_le ss j
  cases p <;> simp [eO] <;> omega
theorem mkE_rng (p:Bool) (k:Int) (ss:List El) (h:∀ e ∈ ss,rE p e) (h0:0≤k) (h1:k+elets ss+ss.length≤9223372036854775807):∀ e ∈ mkE p k ss,rE p e:=by
  intro e he
  obtain ⟨j,hj,rfl⟩:=memE_get he
  rw [mkE_len] at hj
  rw [mkE_get p k ss j hj]
  have hr:=h _ (getD_memE hj)
  have hA:=mkA_le p k ss j (by omega)
  refine ⟨?_,?_,?_,?_⟩
  · cases p
    · exact hr.lo
    · simp only [mk1,cond_true];omega
  · cases p
    · exact hr.hi
    · simp only [mk1,cond_true];omega
  · simp only [mk1,marks_len];exact hr.len
  · intro hp;subst hp;exact hr.zero rfl
section
variable {p : Bool} {w w' : World} {B : Nat} {v : Value} {es : List El}
theorem OVr.letters (h:OVr p w B v es) (k:Nat) (hk:k<es.length) (s:El) (hs:s.cells p=(es.getD k de).cells p) (hm:Mine w B w.heap.size (es.getD k de).a (es.getD k de).c (es.getD k de).ls) (ho:Only (rowOf (es.getD k de).a) w w'):OVr p w' B v (es.set k s):=by
  have h2:=h.stay ho (fun b hb=>h.other hm hb)
  exact ⟨by rw [List.length_set,flat_setE p es s k hk hs];exact h2.own⟩
end
set_option maxHeartbeats 4000000 in
theorem markByteSS_own (a:Option Addr) (cap B:Nat) (ss:List El) (k:Int) (w:World) (h:OVr false w B (.slice a ss.length cap) ss) (hd:Deep w B ss) (hn:ss.length+elets ss≤1048576) (h0:0≤k) (h1:k≤1) :
    Calls Tryz.prog 56 #[.slice a ss.length cap,.int .i64 k] w fun e w'=>e=.returned (.int .i64 (k+elets ss))∧(OVr false w' B (.slice a ss.length cap) (mkE false k ss)∧Deep w' B (mkE false k ss))∧Only (fun b=>∃ s ∈ ss,rowOf s.a b) w w':=by
  have HST:Hid _:=mkE_step false k ss
  have HGE:Hid _:=mkE_rest false k ss
  have HSU:Hid _:=mkA_succ false k ss
  have HLB:Hid _:=mkA_le false k ss
  have HLE:Hid (∀ j,j≤ss.length→(mkE false k (ss.take j)++ss.drop j).length=ss.length):=fun j hj=>by rw [List.length_append,mkE_len,List.length_take,List.length_drop];omega
  have HO:Hid (OVr false w B (.slice a ss.length cap) ss∧Deep w B ss):=⟨h,hd⟩
  have HMM:Hid (∀ j,j<ss.length→ss.getD j de ∈ ss∧(ss.getD j de).ls.length≤elets ss):=fun j hj=>⟨getD_memE hj,elets_mem (getD_memE hj)⟩
  clear h hd
  have HFI:Hid (mkE false k (ss.take ss.length)++ss.drop ss.length=mkE false k ss∧mkA false k ss ss.length=k+elets ss):=⟨by rw [List.take_length];simp,by rw [mkA_all];simp [eO]⟩
  generalize hlen:ss.length=n at *
  have HL:Hid (ss.length=n∧True):=⟨hlen,trivial⟩
  clear hlen
  generalize hT:elets ss=T at *
  clear hT
  go_enter Tryz.func56,Tryz.ntmps56
  go_wp2
  go_loopw [1,5] (fun q i wr=>∃ (j:Nat) (y:Int),j≤n∧i=.int .i64 j∧q=.int .i64 y∧y=mkA false k ss j∧OVr false wr B (.slice a n cap) (mkE false k (ss.take j)++ss.drop j)∧Deep wr B (mkE false k (ss.take j)++ss.drop j)∧Only (fun b=>∃ s ∈ ss,rowOf s.a b) w wr) (fun _ i _=>n - (intOf i).toNat)
  case atStart=>exact ⟨0,k,Nat.zero_le _,rfl,rfl,by simp [mkA,elets],by simpa [mkE] using HO.out.1,by simpa [mkE] using HO.out.2,Only.refl _ _⟩
  case round=>
    clear HO
    obtain ⟨j,y,hj,rfl,rfl,hy,hown,hdeep,honly⟩:=hrel
    have hyb:=HLB.out j hj
    have HY:Hid (y=mkA false k ss j∧True):=⟨hy,trivial⟩
    rw [← hy] at hyb
    have HOW:Hid (OVr false wr B (.slice a n cap) (mkE false k (ss.take j)++ss.drop j)∧Deep wr B (mkE false k (ss.take j)++ss.drop j)):=⟨hown,hdeep⟩
    have HON:Hid (Only (fun b=>∃ s ∈ ss,rowOf s.a b) w wr):=honly
    clear hy
    by_cases hjn:j<n
    · obtain ⟨g,cap',e',_,hg2,_,hli⟩:=hown.cell j (by rw [HLE.out j hj];exact hjn)
      have hl1:=(hli j (by rw [HLE.out j hj];exact hjn)).c1
      have hmi:=hdeep.mine _ (getD_memE (k:=j) (by rw [HLE.out j hj];exact hjn))
      rw [HGE.out j hjn] at hl1 hmi
      simp only [eW,eO,cond_false,Nat.mul_one,Nat.add_zero] at hl1
      obtain ⟨rfl,-,rfl⟩:a=some ⟨g,0,none⟩∧_∧cap=cap':=by simpa using e'
      have hst:=HST.out j hjn
      rw [← HY.out.1] at hst
      have HSTJ:Hid (_∧True):=⟨hst,trivial⟩
      obtain ⟨HIN,hT2⟩:=HMM.out j hjn
      have HGJ:Hid (_∧True):=⟨HGE.out j hjn,trivial⟩
      have HYN:Hid (mkA false k ss (j+1)=y+(ss.getD j de).ls.length∧True):=⟨by rw [HSU.out j hjn,HY.out.1];simp [eO],trivial⟩
      have HMI:Hid (Mine wr B wr.heap.size (ss.getD j de).a (ss.getD j de).c (ss.getD j de).ls):=hmi
      have HMK:=markByteS_any (ss.getD j de).a B wr.heap.size (ss.getD j de).c (ss.getD j de).ls y wr hmi (by omega) (by omega) (by omega)
      have HIN':Hid (ss.getD j de ∈ ss):=HIN
      clear hst hown hdeep honly hmi hli e' HIN HY
      generalize hs:ss.getD j de=s at *
      clear hs
      go_wp2_with fail
      refine HMK.mono ?_
      clear HMK
      rintro e w2 ⟨rfl,hm2,ho2⟩
      have hlk:j<(mkE false k (ss.take j)++ss.drop j).length:=by rw [HLE.out j hj];exact hjn
      have hc2:(mk1 false y s).cells false=((mkE false k (ss.take j)++ss.drop j).getD j de).cells false:=by rw [HGJ.out.1];simp [mk1,El.cells,marks_len]
      have hR2:=HOW.out.1.letters j hlk (mk1 false y s) hc2 (by rw [HGJ.out.1];exact HMI.out) (w':=w2) (by rw [HGJ.out.1];exact ho2)
      have hD2:=HOW.out.2.letters j hlk (mk1 false y s) (by rw [HGJ.out.1];rfl) (w':=w2) (by rw [HGJ.out.1];exact ho2) (by simpa [mk1,eO] using hm2)
      rw [HSTJ.out.1] at hR2 hD2
      have HN2:Hid _:=And.intro hR2 hD2
      have HO2:Hid (Only (fun b=>∃ s ∈ ss,rowOf s.a b) w w2):=HON.out.trans (ho2.mono (fun b _ hb=>⟨s,HIN'.out,hb⟩))
      clear hR2 hD2 hc2 hlk ho2 hm2 HOW HON HMI HGJ
      go_wp2
      go_roundw
      case rel=>exact ⟨j+1,_,by omega,by go_num,rfl,HYN.out.1.symm,HN2.out.1,HN2.out.2,HO2.out⟩
      case measure=>simp [intOf];omega
    · have hjn2:j=n:=by omega
      subst hjn2
      have HFO:Hid (OVr false wr B (.slice a j cap) (mkE false k ss)∧Deep wr B (mkE false k ss)):=by rw [← HFI.out.1];exact HOW.out
      have HYF:Hid (y=k+(T:Nat)∧True):=⟨HY.out.1.trans HFI.out.2,trivial⟩
      clear HOW hown hdeep
      go_wp2
      go_ret
      exact ⟨by rw [← HYF.out.1];rfl,HFO.out,HON.out⟩
set_option maxHeartbeats 4000000 in
theorem markPendS_own (a:Option Addr) (cap B:Nat) (ss:List El) (k:Int) (w:World) (h:OVr true w B (.slice a ss.length cap) ss) (hd:Deep w B ss) (hn:ss.length+elets ss≤1048576) (h0:0≤k) (h1:k+ss.length+elets ss<2097152) :
    Calls Tryz.prog 57 #[.slice a ss.length cap,.int .i64 k] w fun e w'=>e=.returned (.int .i64 (k+elets ss+ss.length))∧(OVr true w' B (.slice a ss.length cap) (mkE true k ss)∧Deep w' B (mkE true k ss))∧Only (fun b=>(Value.slice a ss.length cap).ownBlock=some b∨∃ s ∈ ss,rowOf s.a b) w w':=by
  have HST:Hid _:=mkE_step true k ss
  have HGE:Hid _:=mkE_rest true k ss
  have HSU:Hid _:=mkA_succ true k ss
  have HLB:Hid _:=mkA_le true k ss
  have HLE:Hid (∀ j,j≤ss.length→(mkE true k (ss.take j)++ss.drop j).length=ss.length):=fun j hj=>by rw [List.length_append,mkE_len,List.length_take,List.length_drop];omega
  have HO:Hid (OVr true w B (.slice a ss.length cap) ss∧Deep w B ss):=⟨h,hd⟩
  have HMM:Hid (∀ j,j<ss.length→ss.getD j de ∈ ss∧(ss.getD j de).ls.length≤elets ss):=fun j hj=>⟨getD_memE hj,elets_mem (getD_memE hj)⟩
  clear h hd
  have HFI:Hid (mkE true k (ss.take ss.length)++ss.drop ss.length=mkE true k ss∧mkA true k ss ss.length=k+elets ss+ss.length):=⟨by rw [List.take_length];simp,by rw [mkA_all];simp [eO]⟩
  generalize hlen:ss.length=n at *
  have HL:Hid (ss.length=n∧True):=⟨hlen,trivial⟩
  clear hlen
  generalize hT:elets ss=T at *
  clear hT
  go_enter Tryz.func57,Tryz.ntmps57
  go_wp2
  go_loopw [1,5] (fun q i wr=>∃ (j:Nat) (y:Int),j≤n∧i=.int .i64 j∧q=.int .i64 y∧y=mkA true k ss j∧OVr true wr B (.slice a n cap) (mkE true k (ss.take j)++ss.drop j)∧Deep wr B (mkE true k (ss.take j)++ss.drop j)∧Only (fun b=>(Value.slice a n cap).ownBlock=some b∨∃ s ∈ ss,rowOf s.a b) w wr) (fun _ i _=>n - (intOf i).toNat)
  case atStart=>exact ⟨0,k,Nat.zero_le _,rfl,rfl,by simp [mkA,elets],by simpa [mkE] using HO.out.1,by simpa [mkE] using HO.out.2,Only.refl _ _⟩
  case round=>
    clear HO
    obtain ⟨j,y,hj,rfl,rfl,hy,hown,hdeep,honly⟩:=hrel
    have hyb:=HLB.out j hj
    have HY:Hid (y=mkA true k ss j∧True):=⟨hy,trivial⟩
    rw [← hy] at hyb
    have HOW:Hid (OVr true wr B (.slice a n cap) (mkE true k (ss.take j)++ss.drop j)∧Deep wr B (mkE true k (ss.take j)++ss.drop j)):=⟨hown,hdeep⟩
    have HON:Hid (Only (fun b=>(Value.slice a n cap).ownBlock=some b∨∃ s ∈ ss,rowOf s.a b) w wr):=honly
    clear hy
    by_cases hjn:j<n
    · obtain ⟨g,cap',e',_,hg2,hfz,hli⟩:=hown.cell j (by rw [HLE.out j hj];exact hjn)
      have hl0:=(hli j (by rw [HLE.out j hj];exact hjn)).c0 rfl
      have hl1:=(hli j (by rw [HLE.out j hj];exact hjn)).c1
      have hmi:=hdeep.mine _ (getD_memE (k:=j) (by rw [HLE.out j hj];exact hjn))
      rw [HGE.out j hjn] at hl0 hl1 hmi
      simp only [eW,eO,cond_true] at hl0 hl1
      obtain ⟨rfl,-,rfl⟩:a=some ⟨g,0,none⟩∧_∧cap=cap':=by simpa using e'
      have f0:=hfz (j * 2)
      have hst:=HST.out j hjn
      rw [← HY.out.1] at hst
      have HSTJ:Hid (_∧True):=⟨hst,trivial⟩
      obtain ⟨HIN,hT2⟩:=HMM.out j hjn
      have HGJ:Hid (_∧True):=⟨HGE.out j hjn,trivial⟩
      have HYN:Hid (mkA true k ss (j+1)=y+1+(ss.getD j de).ls.length∧True):=⟨by rw [HSU.out j hjn,HY.out.1];simp [eO],trivial⟩
      have hlk:j<(mkE true k (ss.take j)++ss.drop j).length:=by rw [HLE.out j hj];exact hjn
      have hlk2:∀ s:El,j<((mkE true k (ss.take j)++ss.drop j).set j s).length:=fun s=>by rw [List.length_set];exact hlk
      have hgs:∀ s:El,((mkE true k (ss.take j)++ss.drop j).set j s).getD j de=s:=fun s=>by rw [getD_setE _ j j _ hlk,if_pos rfl]
      have hR1:=hown.store j hlk { (ss.getD j de) with n:=y } 0 (by simp [eW]) (.int .i64 y) (by rw [HGE.out j hjn];rfl) (g:=g) rfl
      have hon1:Only (fun b=>b=g) wr (wr.setCell ⟨g,j * 2,none⟩ (.int .i64 y)):=(Only.refl (fun b=>b=g) wr).setCell (p:=⟨g,j * 2,none⟩) (.inl rfl) _
      have hD1:=hdeep.stay hon1 (fun x hx b hb e=>hown.other (hdeep.mine x hx) (g:=g) rfl (e ▸ hb))
      have hD2:Deep (wr.setCell ⟨g,j * 2,none⟩ (.int .i64 y)) B ((mkE true k (ss.take j)++ss.drop j).set j { (ss.getD j de) with n:=y }):=by
        refine ⟨fun t ht=>?_,by rw [map_setE _ j _ (by rw [HGE.out j hjn]) hlk];exact hD1.apart⟩
        rcases List.mem_or_eq_of_mem_set ht with ht | rfl
        · exact hD1.mine t ht
        · have:=hD1.mine _ (getD_memE hlk)
          rw [HGE.out j hjn] at this
          exact this
      have hmi1:=hD2.mine _ (getD_memE (hlk2 _))
      rw [hgs] at hmi1
      simp only at hmi1
      rw [show j * eW true+0=j * 2 from by simp [eW]] at hR1
      have HR1:Hid (OVr true (wr.setCell ⟨g,j * 2,none⟩ (.int .i64 y)) B (.slice (some ⟨g,0,none⟩) n cap) ((mkE true k (ss.take j)++ss.drop j).set j { (ss.getD j de) with n:=y })∧Deep (wr.setCell ⟨g,j * 2,none⟩ (.int .i64 y)) B ((mkE true k (ss.take j)++ss.drop j).set j { (ss.getD j de) with n:=y })):=⟨hR1,hD2⟩
      have HMI:Hid (Mine (wr.setCell ⟨g,j * 2,none⟩ (.int .i64 y)) B (wr.setCell ⟨g,j * 2,none⟩ (.int .i64 y)).heap.size (ss.getD j de).a (ss.getD j de).c (ss.getD j de).ls):=hmi1
      have HMK:=markByteS_any (ss.getD j de).a B _ (ss.getD j de).c (ss.getD j de).ls (y+1) _ hmi1 (by omega) (by omega) (by omega)
      have HIN':Hid (ss.getD j de ∈ ss):=HIN
      have HON1:Hid (Only (fun b=>(Value.slice (some ⟨g,0,none⟩) n cap).ownBlock=some b∨∃ s ∈ ss,rowOf s.a b) w (wr.setCell ⟨g,j * 2,none⟩ (.int .i64 y))):=HON.out.trans (hon1.mono (fun b _ hb=>.inl (by rw [hb];rfl)))
      have HK2:Hid ((∀ s:El,j<((mkE true k (ss.take j)++ss.drop j).set j s).length)∧(∀ s:El,((mkE true k (ss.take j)++ss.drop j).set j s).getD j de=s)):=⟨hlk2,hgs⟩
      clear hst hown hdeep honly hmi hli e' HIN HY hR1 hD1 hD2 hmi1 hon1 hlk hlk2 hgs hfz HON HOW
      generalize hs:ss.getD j de=s at *
      clear hs
      go_wp2_with fail
      refine HMK.mono ?_
      clear HMK
      rintro e w2 ⟨rfl,hm2,ho2⟩
      have hc2:(mk1 true y s).cells true=(((mkE true k (ss.take j)++ss.drop j).set j { s with n:=y }).getD j de).cells true:=by rw [HK2.out.2];simp [mk1,El.cells,marks_len]
      have hR2:=HR1.out.1.letters j (HK2.out.1 _) (mk1 true y s) hc2 (by rw [HK2.out.2];exact HMI.out) (w':=w2) (by rw [HK2.out.2];exact ho2)
      have hD2:=HR1.out.2.letters j (HK2.out.1 _) (mk1 true y s) (by rw [HK2.out.2];rfl) (w':=w2) (by rw [HK2.out.2];exact ho2) (by simpa [mk1,eO] using hm2)
      rw [List.set_set,HSTJ.out.1] at hR2 hD2
      have HN2:Hid _:=And.intro hR2 hD2
      have HO2:Hid (Only (fun b=>(Value.slice (some ⟨g,0,none⟩) n cap).ownBlock=some b∨∃ s ∈ ss,rowOf s.a b) w w2):=HON1.out.trans (ho2.mono (fun b _ hb=>.inr ⟨s,HIN'.out,hb⟩))
      clear hR2 hD2 hc2 ho2 hm2 HMI HGJ HR1 HON1
      go_wp2
      go_roundw
      case rel=>exact ⟨j+1,_,by omega,by go_num,rfl,HYN.out.1.symm,HN2.out.1,HN2.out.2,HO2.out⟩
      case measure=>simp [intOf];omega
    · have hjn2:j=n:=by omega
      subst hjn2
      have HFO:Hid (OVr true wr B (.slice a j cap) (mkE true k ss)∧Deep wr B (mkE true k ss)):=by rw [← HFI.out.1];exact HOW.out
      have HYF:Hid (y=k+(T:Nat)+(j:Nat)∧True):=⟨HY.out.1.trans HFI.out.2,trivial⟩
      clear HOW hown hdeep
      go_wp2
      go_ret
      exact ⟨by rw [← HYF.out.1];rfl,HFO.out,HON.out⟩
def mkSs (ss:List El):List El:=mkE false 1 ss
def mkPs (ss ps:List El):List El:=mkE true (1+elets ss) ps
def mkN (ss ps:List El):Int:=1+elets ss+elets ps+ps.length

set_option maxHeartbeats 4000000 in
theorem markRaw_own (sa pa:Option Addr) (sc pc B:Nat) (ss ps:List El) (w:World) (h:RawO w B (.slice sa ss.length sc) (.slice pa ps.length pc) ss ps) (hf:Few ss ps) :
    Calls Tryz.prog 28 #[.agg #[.slice sa ss.length sc,.slice pa ps.length pc],.int .i64 1] w fun e w'=>e=.returned (.int .i64 (mkN ss ps))∧RawO w' B (.slice sa ss.length sc) (.slice pa ps.length pc) (mkSs ss) (mkPs ss ps)∧Only (blkR (.slice sa ss.length sc) (.slice pa ps.length pc) ss ps) w w':=by
  have H0:Hid (RawO w B (.slice sa ss.length sc) (.slice pa ps.length pc) ss ps):=h
  have HF:Hid (Few ss ps):=hf
  clear h hf
  go_enter Tryz.func28,Tryz.ntmps28
  have HW:Hid (Below w.heap.size w (w.alloc (Obj.cells #[Value.slice sa ss.length sc,Value.slice pa ps.length pc] 39))):=(Below.refl _ _).alloc (Nat.le_refl _) _
  have HX:Hid (Box2 (w.alloc (Obj.cells #[Value.slice sa ss.length sc,Value.slice pa ps.length pc] 39)) w.heap.size (.slice sa ss.length sc) (.slice pa ps.length pc)):=Box2.new _ _ _ _
  have H1:Hid (RawO (w.alloc (Obj.cells #[Value.slice sa ss.length sc,Value.slice pa ps.length pc] 39)) B (.slice sa ss.length sc) (.slice pa ps.length pc) ss ps):=H0.out.below HW.out
  have HO1:Hid (Only (blkR (.slice sa ss.length sc) (.slice pa ps.length pc) ss ps) w (w.alloc (Obj.cells #[Value.slice sa ss.length sc,Value.slice pa ps.length pc] 39))):=(Only.refl _ _).alloc _
  go_wp2_with fail
  generalize w.alloc (Obj.cells #[Value.slice sa ss.length sc,Value.slice pa ps.length pc] 39)=W at *
  refine (markByteSS_own sa sc B ss 1 W H1.out.rs H1.out.deep.parts.1 (by have:=HF.out.sum;omega) (by omega) (by omega)).mono ?_
  rintro e w1 ⟨rfl,⟨hr1,hd1⟩,ho1⟩
  have hin:∀ b,(∃ s ∈ ss,rowOf s.a b)→blkR (.slice sa ss.length sc) (.slice pa ps.length pc) ss ps b:=fun b ⟨s,hs,hb⟩=>.inr (.inr ⟨s,List.mem_append_left _ hs,hb⟩)
  have hx1:=HX.out.only ho1 (fun hs=>Nat.lt_irrefl _ (H0.out.inside _ (hin _ hs)).2)
  have hp1:OVr true w1 B (.slice pa ps.length pc) ps:=H1.out.rp.stay ho1 (fun b hb ⟨s,hs,hs2⟩=>H1.out.rp.other (H1.out.deep.mine s (List.mem_append_left _ hs)) hb hs2)
  have hq1:Deep w1 B ps:=H1.out.deep.parts.2.1.stay ho1 (fun x hx b hb ⟨s,hs,hs2⟩=>H1.out.deep.parts.2.2 s.a (List.mem_map.2 ⟨s,hs,rfl⟩) x.a (List.mem_map.2 ⟨x,hx,rfl⟩) b hs2 hb)
  have HR1:Hid ((OVr false w1 B (.slice sa ss.length sc) (mkSs ss)∧Deep w1 B (mkSs ss))∧OVr true w1 B (.slice pa ps.length pc) ps∧Deep w1 B ps):=⟨⟨hr1,hd1⟩,hp1,hq1⟩
  have HO2:Hid (Only (blkR (.slice sa ss.length sc) (.slice pa ps.length pc) ss ps) w w1):=HO1.out.trans (ho1.mono (fun b _ hb=>hin b hb))
  have HCR:Hid (∀ x ∈ ss.map El.a,∀ y ∈ ps.map El.a,∀ k,rowOf x k→¬ rowOf y k):=H1.out.deep.parts.2.2
  have HSM:=HF.out.sum
  clear hr1 hd1 ho1 hin hp1 hq1 HO1 H1 HX HW
  obtain ⟨x0,x1,-,-,xl⟩:=hx1
  have HMP:=markPendS_own pa pc B ps (1+elets ss) w1 HR1.out.2.1 HR1.out.2.2 (by omega) (by omega) (by omega)
  have HNN:Hid (mkN ss ps=1+(elets ss:Int)+elets ps+ps.length∧True):=⟨rfl,trivial⟩
  generalize hE:elets ss=E at *
  have HE:Hid (elets ss=E∧True):=⟨hE,trivial⟩
  clear hE
  go_wp2_with fail
  refine HMP.mono ?_
  clear HMP
  rintro e w2 ⟨rfl,⟨hr2,hd2⟩,ho2⟩
  have hin2:∀ b,((Value.slice pa ps.length pc).ownBlock=some b∨∃ s ∈ ps,rowOf s.a b)→blkR (.slice sa ss.length sc) (.slice pa ps.length pc) ss ps b:=by
    rintro b (hb | ⟨s,hs,hb⟩)
    · exact .inr (.inl hb)
    · exact .inr (.inr ⟨s,List.mem_append_right _ hs,hb⟩)
  have HO3:Hid (Only (blkR (.slice sa ss.length sc) (.slice pa ps.length pc) ss ps) w w2):=HO2.out.trans (ho2.mono (fun b _ hb=>hin2 b hb))
  have hs2:OVr false w2 B (.slice sa ss.length sc) (mkSs ss):=HR1.out.1.1.stay ho2 (by
    rintro b hb (h | ⟨s,hs,hs2⟩)
    · exact HR1.out.1.1.two HR1.out.2.1 hb h
    · exact HR1.out.1.1.other (HR1.out.2.2.mine s hs) hb hs2)
  have ht2:Deep w2 B (mkSs ss):=HR1.out.1.2.stay ho2 (by
    rintro x hx b hb (h | ⟨s,hs,hs2⟩)
    · exact HR1.out.2.1.other (HR1.out.1.2.mine x hx) h hb
    · have hxa:x.a ∈ ss.map El.a:=by
        rw [← mkE_a false 1 ss]
        exact List.mem_map.2 ⟨x,hx,rfl⟩
      exact HCR.out x.a hxa s.a (List.mem_map.2 ⟨s,hs,rfl⟩) b hb hs2)
  have HFIN:Hid (RawO w2 B (.slice sa ss.length sc) (.slice pa ps.length pc) (mkSs ss) (mkPs ss ps)):=by
    refine ⟨hs2,?_,ht2.join ?_ ?_,?_,?_⟩
    · unfold mkPs;rw [HE.out.1];exact hr2
    · unfold mkPs;rw [HE.out.1];exact hd2
    · unfold mkSs mkPs;rw [mkE_a,mkE_a];exact HCR.out
    · exact mkE_rng false 1 ss H0.out.rng.1 (by omega) (by have:=HE.out.1;omega)
    · exact mkE_rng true _ ps H0.out.rng.2 (by omega) (by have:=HE.out.1;omega)
  clear hr2 hd2 ho2 hin2 hs2 ht2 HR1 HO2 x0 x1
  go_wp2
  go_ret
  exact ⟨by rw [HNN.out.1];rfl,HFIN.out,HO3.out⟩
def mkP (k:Int):Nat→List (Int × Int)
  | 0 => []
  | n + 1 => mkP k n ++ [(k + (n * 2 : Nat), k + (n * 2 : Nat) + 1)]
theorem mkP_len (k:Int) (n:Nat):(mkP k n).length=n:=by
  induction n with
  | zero => rfl
  | succ n ih => simp [mkP, ih]
theorem mkP_step (k:Int) (ps:List (Int × Int)) (j:Nat) (h:j<ps.length):(mkP k j++ps.drop j).set j (k+(j * 2:Nat),k+(j * 2:Nat)+1)=mkP k (j+1)++ps.drop (j+1):=by
  rw [List.set_append_right _ _ (by rw [mkP_len];exact Nat.le_refl _),mkP_len,Nat.sub_self,List.drop_eq_getElem_cons h,List.set_cons_zero]
  simp [mkP]

set_option maxHeartbeats 1600000 in
theorem markPlaceS_own (B g cap:Nat) (ps:List (Int × Int)) (k:Int) (w:World) (h:OwP w B g cap ps) (hn:ps.length≤1048576) (h0:0≤k) (h1:k≤4194304) :
    Calls Tryz.prog 58 #[.slice (some ⟨g,0,none⟩) ps.length cap,.int .i64 k] w fun e w'=>e=.returned (.int .i64 (k+(ps.length * 2:Nat)))∧OwP w' B g cap (mkP k ps.length)∧Only (·=g) w w':=by
  generalize hlen:ps.length=n at *
  have HL:Hid (ps.length=n∧True):=⟨hlen,trivial⟩
  clear hlen
  have HO:Hid (OwP w B g cap ps):=h
  clear h
  go_enter Tryz.func58,Tryz.ntmps58
  go_wp2
  go_loopw [1,5] (fun q i wr=>∃ (j:Nat) (y:Int),j≤n∧i=.int .i64 j∧q=.int .i64 y∧y=k+(j * 2:Nat)∧OwP wr B g cap (mkP k j++ps.drop j)∧Only (·=g) w wr) (fun _ i _=>n - (intOf i).toNat)
  case atStart=>exact ⟨0,k,Nat.zero_le _,rfl,rfl,by simp,by simpa [mkP] using HO.out,Only.refl _ _⟩
  case round=>
    obtain ⟨j,y,hj,rfl,rfl,hy,hown,honly⟩:=hrel
    have HY:Hid (y=k+(j * 2:Nat)∧True):=⟨hy,trivial⟩
    have hyb:0≤y∧y≤8000000:=by omega
    by_cases hlt:j<n
    · have hl:(mkP k j++ps.drop j).length=n:=by rw [List.length_append,mkP_len,List.length_drop,HL.out.1];omega
      obtain ⟨c0,c1⟩:=hown.cell j (by omega)
      have f0:=hown.frozen (j * 2)
      have f1:=hown.frozen (j * 2+1)
      have R:=hown.store j (by omega) (y,y+1) ⟨by simp only;omega,by simp only;omega⟩
      rw [hy,mkP_step k ps j (by rw [HL.out.1];exact hlt),← hy] at R
      have HR:Hid (OwP ((wr.setCell ⟨g,j * 2,none⟩ (.int .i64 y)).setCell ⟨g,j * 2+1,none⟩ (.int .i64 (y+1))) B g cap (mkP k (j+1)++ps.drop (j+1))):=R
      have HB:Hid (Only (·=g) w ((wr.setCell ⟨g,j * 2,none⟩ (.int .i64 y)).setCell ⟨g,j * 2+1,none⟩ (.int .i64 (y+1)))):=(honly.setCell (.inl rfl) _).setCell (.inl rfl) _
      generalize ((mkP k j++ps.drop j).getD j dp).1=o0 at *
      generalize ((mkP k j++ps.drop j).getD j dp).2=o1 at *
      clear R hown honly hl hy
      go_wp2
      go_roundw
      case rel=>exact ⟨j+1,y+1+1,by omega,by go_num,by go_num,by rw [HY.out.1];omega,HR.out,HB.out⟩
      case measure=>simp [intOf];omega
    · have hjn:j=n:=by omega
      subst hjn
      have hown':=hown
      rw [List.drop_of_length_le (by rw [HL.out.1];exact Nat.le_refl _),List.append_nil] at hown'
      have HF:Hid (OwP wr B g cap (mkP k j)):=hown'
      clear hown hown' hy
      go_wp2
      go_ret
      exact ⟨by rw [← HY.out.1];rfl,HF.out,honly⟩

theorem markPlaceS_any (a:Option Addr) (B U cap:Nat) (ps:List (Int × Int)) (k:Int) (w:World) (h:MinP w B U a cap ps) (hn:ps.length≤1048576) (h0:0≤k) (h1:k≤4194304) :
    Calls Tryz.prog 58 #[.slice a ps.length cap,.int .i64 k] w fun e w'=>e=.returned (.int .i64 (k+(ps.length * 2:Nat)))∧MinP w' B U a cap (mkP k ps.length)∧Only (rowOf a) w w':=by
  rcases h with ⟨rfl,rfl,rfl⟩ | ⟨g,rfl,g1,g2,h⟩
  · go_enter Tryz.func58,Tryz.ntmps58
    go_wp2
    refine wp_loop_rounds 1 ?_
    rw [rounds_succ]
    go_wp2
    go_ret
    exact ⟨by simp,.inl ⟨rfl,rfl,rfl⟩,Only.refl _ _⟩
  · refine (markPlaceS_own B g cap ps k w h hn h0 h1).mono ?_
    rintro e w' ⟨rfl,ho,hy⟩
    exact ⟨rfl,.inr ⟨g,rfl,g1,g2,ho⟩,hy.mono (fun k _ hk=>⟨_,rfl,hk.symm⟩)⟩

set_option maxHeartbeats 800000 in
theorem markMap_any (a:Option Addr) (B U cap:Nat) (ps:List (Int × Int)) (k:Int) (w:World) (h:MinP w B U a cap ps) (hU:U≤w.heap.size) (hn:ps.length≤1048576) (h0:0≤k) (h1:k≤4194304) :
    Calls Tryz.prog 29 #[.agg #[.slice a ps.length cap],.int .i64 k] w fun e w'=>e=.returned (.int .i64 (k+(ps.length * 2:Nat)))∧MinP w' B U a cap (mkP k ps.length)∧Only (rowOf a) w w':=by
  have hw:Below w.heap.size w (w.alloc (Obj.cells #[Value.slice a ps.length cap] 42)):=(Below.refl _ _).alloc (Nat.le_refl _) _
  go_enter Tryz.func29,Tryz.ntmps29
  go_wp2_with fail
  refine (markPlaceS_any a B U cap ps k _ (h.below hw) hn h0 h1).mono ?_
  rintro e w1 ⟨rfl,hm,ho⟩
  have HO:Hid (Only (rowOf a) w w1):=(Only.ofBelow hw (Nat.le_refl _)).trans ho
  have HM:Hid (MinP w1 B U a cap (mkP k ps.length)):=hm
  clear hm ho
  go_wp2
  go_ret
  exact ⟨rfl,HM.out,HO.out⟩
end Go.Proofs.YtbapdnhmodklbaaGreatDoor
