import Derived.Test.YtaibkchbkedjnaaGreatDoorBkC
set_option maxRecDepth 20000
set_option maxHeartbeats 16000000
namespace Go.Proofs.YtaibkchbkedjnaaGreatDoor
open Go.RowKit
set_option linter.unusedVariables false
def z09 (k:Int):Nat->List Int
 | 0=>[]
 | n+1=>z09 k n++[(k+n) % 256]
theorem z0h (k:Int) (n:Nat):(z09 k n).length=n:=by
 induction n with
 | zero=>rfl
 | succ n ih=>simp [z09,ih]
theorem zhb (k:Int) (n i:Nat) (h:i<n):(z09 k n).getD i 0=(k+i) % 256:=by
 induction n with
 | zero=>omega
 | succ n ih=>
  simp only [z09,List.getD_eq_getElem?_getD,List.getElem?_append,z0h]
  by_cases hi:i<n
  ·rw [if_pos hi,<-List.getD_eq_getElem?_getD];exact ih hi
  ·have:i=n:=by omega
   subst this
   simp
theorem zfe (k:Int) (zs:List Int) (j:Nat) (h:j<zs.length):(z09 k j++zs.drop j).set j ((k+j) % 256)=z09 k (j+1)++zs.drop (j+1):=by
 rw [List.set_append_right _ _ (by rw [z0h];exact Nat.le_refl _),z0h,Nat.sub_self,List.drop_eq_getElem_cons h,List.set_cons_zero]
 simp [z09]
theorem zap (B g cap:Nat) (zs:List Int) (k:Int) (w:World) (h:Own w B g cap zs) (hn:zs.length<=2097152) (h0:0<=k) (h1:k<=2097152) :
  Calls Tryz.prog 17 #[.slice (some ⟨g,0,none⟩) zs.length cap,.int .i64 k] w fun e w'=>e=.returned (.int .i64 (k+zs.length))/\Own w' B g cap (z09 k zs.length)/\Only (·=g) w w':=by
 generalize hlen:zs.length=n at *;have HL:Hid (zs.length=n):=hlen;clear hlen;have HO:Hid (Own w B g cap zs):=h;clear h
 go_enter Tryz.func17,Tryz.ntmps17
 go_wp2
 go_loopw [1,5] (fun q i wr=>∃ j:Nat,j<=n/\i=.int .i64 j/\q=.int .i64 (k+j)/\Own wr B g cap (z09 k j++zs.drop j)/\Only (·=g) w wr) (fun _ i _=>n-(intOf i).toNat)
 case atStart=>exact ⟨0,Nat.zero_le _,rfl,by simp,by simpa [z09] using HO.out,Only.refl _ _⟩
 case round=>
  obtain ⟨j,hj,rfl,rfl,hown,honly⟩:=hrel
  by_cases hlt:j<n
  ·have hl:(z09 k j++zs.drop j).length=n:=by rw [List.length_append,z0h,List.length_drop,HL.out];omega
   have hdst:=hown.cell j (by omega)
   have hfz:=hown.frozen j;have R:=hown.store j ((k+j) % 256) (by omega)
   rw [zfe k zs j (by rw [HL.out];exact hlt)] at R
   have HR:Hid (Own (wr.setCell ⟨g,j,none⟩ (.int .u8 ((k+j) % 256))) B g cap (z09 k (j+1)++zs.drop (j+1))):=R;have HB:Hid (Only (·=g) w (wr.setCell ⟨g,j,none⟩ (.int .u8 ((k+j) % 256)))):=honly.setCell (.inl rfl) _;generalize (z09 k j++zs.drop j).getD j 0=old at *;clear R hown honly hl;go_wp2;go_roundw
   case rel=>exact ⟨j+1,by omega,by go_num,by go_num,HR.out,HB.out⟩
   case measure=>simp [intOf];omega
  ·have hjn:j=n:=by omega
   subst hjn;have hown':=hown;rw [List.drop_of_length_le (by rw [HL.out];exact Nat.le_refl _),List.append_nil] at hown'
   have HF:Hid (Own wr B g cap (z09 k j)):=hown';clear hown hown';go_wp2;go_ret;exact ⟨rfl,HF.out,honly⟩
theorem z28 (a:Option Addr) (B U cap:Nat) (zs:List Int) (k:Int) (w:World) (h:Mine w B U a cap zs) (hn:zs.length<=2097152) (h0:0<=k) (h1:k<=2097152) :
  Calls Tryz.prog 17 #[.slice a zs.length cap,.int .i64 k] w fun e w'=>e=.returned (.int .i64 (k+zs.length))/\Mine w' B U a cap (z09 k zs.length)/\Only (zg a) w w':=by
 rcases h with ⟨rfl,rfl,rfl⟩ | ⟨g,rfl,g1,g2,h⟩
 ·go_enter Tryz.func17,Tryz.ntmps17
  go_wp2
  refine wp_loop_rounds 1 ?_;rw [rounds_succ];go_wp2;go_ret;exact ⟨by simp,.inl ⟨rfl,rfl,rfl⟩,Only.refl _ _⟩
 ·refine (zap B g cap zs k w h hn h0 h1).mono ?_
  rintro e w' ⟨rfl,ho,hy⟩;exact ⟨rfl,.inr ⟨g,rfl,g1,g2,ho⟩,hy.mono (fun k _ hk=>⟨_,rfl,hk.symm⟩)⟩
theorem z2z (ss:List El) (k i:Nat) (s:El) (hk:k<ss.length):(ss.set k s).getD i de=if i=k then s else ss.getD i de:=by
 by_cases h:i=k
 ·subst h
  rw [if_pos rfl,List.getD_eq_getElem?_getD,List.getElem?_set_self hk];rfl
 ·rw [if_neg h]
  simp only [List.getD_eq_getElem?_getD,List.getElem?_set_ne (Ne.symm h)]
theorem z6k (ss:List El) (k:Nat) (s:El) (h:s.a=(ss.getD k de).a) (hk:k<ss.length):(ss.set k s).map El.a=ss.map El.a:=by
 apply List.ext_getElem?
 intro i
 rw [List.getElem?_map,List.getElem?_map,List.getElem?_set]
 by_cases e:k=i
 ·subst e
  rw [if_pos rfl,if_pos hk,List.getElem?_eq_getElem hk]
  simp only [Option.map_some,h,List.getD_eq_getElem?_getD,List.getElem?_eq_getElem hk,Option.getD_some]
 ·rw [if_neg e]
theorem z9x (p:Bool) (ss:List El) (s:El):∀ k,k<ss.length->s.cells p=(ss.getD k de).cells p->(ss.set k s).flatMap (El.cells p)=ss.flatMap (El.cells p):=by
 induction ss with
 | nil=>intro k hk;simp at hk
 | cons x ss ih=>
  intro k hk hs
  cases k with
  | zero=>
   have hs':s.cells p=x.cells p:=hs;rw [List.set_cons_zero,List.flatMap_cons,List.flatMap_cons,hs']
  | succ k=>rw [List.set_cons_succ,List.flatMap_cons,List.flatMap_cons,ih k (by simpa using hk) hs]
section
variable {w w' : World} {B : Nat} {es : List El}
theorem zkc {es:List El} (h:(es.map El.a).Pairwise (fun x y=>∀ k,zg x k->¬zg y k)) {i j:Nat} (hi:i<es.length) (hj:j<es.length) (hij:i≠j):∀ k,zg (es.getD i de).a k->¬zg (es.getD j de).a k:=by
 intro k h1 h2
 rw [List.pairwise_iff_getElem] at h;have gi:(es.getD i de)=es[i]:=by rw [List.getD_eq_getElem?_getD,List.getElem?_eq_getElem hi];rfl
 have gj:(es.getD j de)=es[j]:=by rw [List.getD_eq_getElem?_getD,List.getElem?_eq_getElem hj];rfl
 rw [gi] at h1;rw [gj] at h2;rcases Nat.lt_or_gt_of_ne hij with h3 | h3
 ·have:=h i j (by simpa using hi) (by simpa using hj) h3 k
  simp only [List.getElem_map] at this
  exact this h1 h2
 ·have:=h j i (by simpa using hj) (by simpa using hi) h3 k
  simp only [List.getElem_map] at this
  exact this h2 h1
theorem Deep.letters (h:Deep w B es) (k:Nat) (hk:k<es.length) (s:El) (ha:s.a=(es.getD k de).a) (ho:Only (zg (es.getD k de).a) w w') (hm:Mine w' B w.heap.size s.a s.c s.ls):Deep w' B (es.set k s):=by
 refine ⟨?_,?_⟩
 ·intro t ht
  obtain ⟨i,hi,rfl⟩:=z2m ht;rw [List.length_set] at hi;rw [z2z es k i _ hk]
  by_cases hik:i=k
  ·rw [if_pos hik]
   exact hm.mono nl ho.size
  ·rw [if_neg hik]
   exact ((h.mine _ (zf hi)).stay ho (fun b hb=>zkc h.apart hi hk hik b hb)).mono nl ho.size
 ·rw [z6k es k s ha hk]
  exact h.apart
theorem Deep.parts {ss ps:List El} (h:Deep w B (ss++ps)):Deep w B ss/\Deep w B ps/\∀ x ∈ ss.map El.a,∀ y ∈ ps.map El.a,∀ k,zg x k->¬zg y k:=by
 have h1:=h.apart;rw [List.map_append,List.pairwise_append] at h1;exact ⟨⟨fun e he=>h.mine e (List.mem_append_left _ he),h1.1⟩,⟨fun e he=>h.mine e (List.mem_append_right _ he),h1.2.1⟩,h1.2.2⟩
theorem Deep.join {ss ps:List El} (h1:Deep w B ss) (h2:Deep w B ps) (h3:∀ x ∈ ss.map El.a,∀ y ∈ ps.map El.a,∀ k,zg x k->¬zg y k):Deep w B (ss++ps):=by
 refine ⟨fun e he=>(List.mem_append.1 he).elim (h1.mine e) (h2.mine e),?_⟩
 rw [List.map_append,List.pairwise_append];exact ⟨h1.apart,h2.apart,h3⟩
end
def mkE (p:Bool):Int->List El->List El
 | _,[]=>[]
 | k,s :: ss=>{ s with n:=cond p k s.n,ls:=z09 (k+eO p) s.ls.length } :: mkE p (k+eO p+s.ls.length) ss
theorem z1b (p:Bool) (k:Int) (ss:List El):(mkE p k ss).length=ss.length:=by
 induction ss generalizing k with
 | nil=>rfl
 | cons s ss ih=>simp [mkE,ih]
theorem zb6 (p:Bool) (k:Int) (ss:List El):(mkE p k ss).map El.a=ss.map El.a:=by
 induction ss generalizing k with
 | nil=>rfl
 | cons s ss ih=>simp [mkE,ih]
theorem zf6 (p:Bool) (k:Int) (a b:List El):mkE p k (a++b)=mkE p k a++mkE p (k+zb a+a.length*eO p) b:=by
 induction a generalizing k with
 | nil=>simp [mkE,zb]
 | cons s a ih=>
  simp only [List.cons_append,mkE,ih,zb,List.length_cons]
  congr 3
  cases p <;> simp [eO] <;> omega
def mk1 (p:Bool) (k:Int) (s:El):El:={ s with n:=cond p k s.n,ls:=z09 (k+eO p) s.ls.length }
def mkA (p:Bool) (k:Int) (ss:List El) (j:Nat):Int:=k+zb (ss.take j)+j*eO p
theorem z3z (p:Bool) (k:Int) (ss:List El) (j:Nat) (h:j<ss.length):(mkE p k (ss.take j)++ss.drop j).set j (mk1 p (mkA p k ss j) (ss.getD j de))=mkE p k (ss.take (j+1))++ss.drop (j+1):=by
 have hl:(mkE p k (ss.take j)).length=j:=by rw [z1b,List.length_take];omega
 rw [List.set_append_right _ _ (by omega),hl,Nat.sub_self,List.drop_eq_getElem_cons h,List.set_cons_zero,List.take_succ_eq_append_getElem h,zf6,List.append_assoc]
 congr 1
 have e:ss.getD j de=ss[j]:=by rw [List.getD_eq_getElem?_getD,List.getElem?_eq_getElem h];rfl
 rw [e,show (ss.take j).length=j from by rw [List.length_take];omega]
 rfl
theorem z6e (p:Bool) (k:Int) (ss:List El) (j:Nat) (h:j<ss.length):(mkE p k (ss.take j)++ss.drop j).getD j de=ss.getD j de:=by
 have hl:(mkE p k (ss.take j)).length=j:=by rw [z1b,List.length_take];omega
 rw [List.getD_eq_getElem?_getD,List.getElem?_append_right (by omega),hl,Nat.sub_self,List.drop_eq_getElem_cons h,List.getElem?_cons_zero,List.getD_eq_getElem?_getD,List.getElem?_eq_getElem h]
theorem zew (p:Bool) (k:Int) (ss:List El) (j:Nat) (h:j<ss.length):(mkE p k ss).getD j de=mk1 p (mkA p k ss j) (ss.getD j de):=by
 have e:mkE p k ss=mkE p k (ss.take (j+1))++mkE p (k+zb (ss.take (j+1))+(ss.take (j+1)).length*eO p) (ss.drop (j+1)):=by rw [<-zf6,List.take_append_drop]
 have hl:(mkE p k (ss.take (j+1))).length=j+1:=by rw [z1b,List.length_take];omega
 rw [e,List.getD_eq_getElem?_getD,List.getElem?_append_left (by omega),<-List.getD_eq_getElem?_getD]
 have h2:=z3z p k ss j h;have h3:((mkE p k (ss.take (j+1))++ss.drop (j+1))).getD j de=(mkE p k (ss.take (j+1))).getD j de:=by
  rw [List.getD_eq_getElem?_getD,List.getElem?_append_left (by omega),<-List.getD_eq_getElem?_getD]
 rw [<-h3,<-h2,z2z _ j j _ (by rw [List.length_append,z1b,List.length_take,List.length_drop];omega),if_pos rfl]
theorem z3v (p:Bool) (k:Int) (ss:List El) (j:Nat) (h:j<ss.length):mkA p k ss (j+1)=mkA p k ss j+eO p+(ss.getD j de).ls.length:=by
 unfold mkA;rw [z0c ss j h]
 cases p <;> simp [eO] <;> omega
theorem z5t (p:Bool) (k:Int) (ss:List El):mkA p k ss ss.length=k+zb ss+ss.length*eO p:=by unfold mkA;rw [List.take_length]
theorem z55 (p:Bool) (k:Int) (ss:List El) (j:Nat) (h:j<=ss.length):k<=mkA p k ss j/\mkA p k ss j<=k+zb ss+ss.length:=by
 unfold mkA;have:=z1e ss j
 cases p <;> simp [eO] <;> omega
theorem z95 (p:Bool) (k:Int) (ss:List El) (h:∀ e ∈ ss,rE p e) (h0:0<=k) (h1:k+zb ss+ss.length<=9223372036854775807):∀ e ∈ mkE p k ss,rE p e:=by
 intro e he
 obtain ⟨j,hj,rfl⟩:=z2m he;rw [z1b] at hj;rw [zew p k ss j hj];have hr:=h _ (zf hj);have hA:=z55 p k ss j (by omega)
 refine ⟨?_,?_,?_,?_⟩
 ·cases p
  ·exact hr.lo
  ·simp only [mk1,cond_true];omega
 ·cases p
  ·exact hr.hi
  ·simp only [mk1,cond_true];omega
 ·simp only [mk1,z0h];exact hr.len
 ·intro hp;subst hp;exact hr.zero rfl
section
variable {p : Bool} {w w' : World} {B : Nat} {v : Value} {es : List El}
theorem OVr.letters (h:OVr p w B v es) (k:Nat) (hk:k<es.length) (s:El) (hs:s.cells p=(es.getD k de).cells p) (hm:Mine w B w.heap.size (es.getD k de).a (es.getD k de).c (es.getD k de).ls) (ho:Only (zg (es.getD k de).a) w w'):OVr p w' B v (es.set k s):=by
 have h2:=h.stay ho (fun b hb=>h.other hm hb)
 exact ⟨by rw [List.length_set,z9x p es s k hk hs];exact h2.own⟩
end
theorem z3k (a:Option Addr) (cap B:Nat) (ss:List El) (k:Int) (w:World) (h:OVr false w B (.slice a ss.length cap) ss) (hd:Deep w B ss) (hn:ss.length+zb ss<=1048576) (h0:0<=k) (h1:k<=1) :
  Calls Tryz.prog 30 #[.slice a ss.length cap,.int .i64 k] w fun e w'=>e=.returned (.int .i64 (k+zb ss))/\(OVr false w' B (.slice a ss.length cap) (mkE false k ss)/\Deep w' B (mkE false k ss))/\Only (fun b=>∃ s ∈ ss,zg s.a b) w w':=by
 have HST:Hid _:=z3z false k ss;have HGE:Hid _:=z6e false k ss;have HSU:Hid _:=z3v false k ss;have HLB:Hid _:=z55 false k ss;have HLE:Hid (∀ j,j<=ss.length->(mkE false k (ss.take j)++ss.drop j).length=ss.length):=fun j hj=>by rw [List.length_append,z1b,List.length_take,List.length_drop];omega
 have HO:Hid (OVr false w B (.slice a ss.length cap) ss/\Deep w B ss):=⟨h,hd⟩;have HMM:Hid (∀ j,j<ss.length->ss.getD j de ∈ ss/\(ss.getD j de).ls.length<=zb ss):=fun j hj=>⟨zf hj,z04 (zf hj)⟩
 clear h hd;have HFI:Hid (mkE false k (ss.take ss.length)++ss.drop ss.length=mkE false k ss/\mkA false k ss ss.length=k+zb ss):=⟨by rw [List.take_length];simp,by rw [z5t];simp [eO]⟩
 generalize hlen:ss.length=n at *;have HL:Hid (ss.length=n/\True):=⟨hlen,trivial⟩;clear hlen;generalize hT:zb ss=T at *;clear hT
 go_enter Tryz.func30,Tryz.ntmps30
 go_wp2
 go_loopw [1,5] (fun q i wr=>∃ (j:Nat) (y:Int),j<=n/\i=.int .i64 j/\q=.int .i64 y/\y=mkA false k ss j/\OVr false wr B (.slice a n cap) (mkE false k (ss.take j)++ss.drop j)/\Deep wr B (mkE false k (ss.take j)++ss.drop j)/\Only (fun b=>∃ s ∈ ss,zg s.a b) w wr) (fun _ i _=>n-(intOf i).toNat)
 case atStart=>exact ⟨0,k,Nat.zero_le _,rfl,rfl,by simp [mkA,zb],by simpa [mkE] using HO.out.1,by simpa [mkE] using HO.out.2,Only.refl _ _⟩
 case round=>
  clear HO;obtain ⟨j,y,hj,rfl,rfl,hy,hown,hdeep,honly⟩:=hrel;have hyb:=HLB.out j hj;have HY:Hid (y=mkA false k ss j/\True):=⟨hy,trivial⟩;rw [<-hy] at hyb;have HOW:Hid (OVr false wr B (.slice a n cap) (mkE false k (ss.take j)++ss.drop j)/\Deep wr B (mkE false k (ss.take j)++ss.drop j)):=⟨hown,hdeep⟩;have HON:Hid (Only (fun b=>∃ s ∈ ss,zg s.a b) w wr):=honly
  clear hy
  by_cases hjn:j<n
  ·obtain ⟨g,cap',e',_,hg2,_,hli⟩:=hown.cell j (by rw [HLE.out j hj];exact hjn)
   have hl1:=(hli j (by rw [HLE.out j hj];exact hjn)).c1
   have hmi:=hdeep.mine _ (zf (k:=j) (by rw [HLE.out j hj];exact hjn))
   rw [HGE.out j hjn] at hl1 hmi
   simp only [eW,eO,cond_false,Nat.mul_one,Nat.add_zero] at hl1
   obtain ⟨rfl,-,rfl⟩:a=some ⟨g,0,none⟩/\_/\cap=cap':=by simpa using e'
   have hst:=HST.out j hjn;rw [<-HY.out.1] at hst;have HSTJ:Hid (_/\True):=⟨hst,trivial⟩;obtain ⟨HIN,hT2⟩:=HMM.out j hjn;have HGJ:Hid (_/\True):=⟨HGE.out j hjn,trivial⟩;have HYN:Hid (mkA false k ss (j+1)=y+(ss.getD j de).ls.length/\True):=⟨by rw [HSU.out j hjn,HY.out.1];simp [eO],trivial⟩
   have HMI:Hid (Mine wr B wr.heap.size (ss.getD j de).a (ss.getD j de).c (ss.getD j de).ls):=hmi;have HMK:=z28 (ss.getD j de).a B wr.heap.size (ss.getD j de).c (ss.getD j de).ls y wr hmi (by omega) (by omega) (by omega)
   have HIN':Hid (ss.getD j de ∈ ss):=HIN;clear hst hown hdeep honly hmi hli e' HIN HY;generalize hs:ss.getD j de=s at *;clear hs;go_wp2_with fail
   refine HMK.mono ?_;clear HMK;rintro e w2 ⟨rfl,hm2,ho2⟩;have hlk:j<(mkE false k (ss.take j)++ss.drop j).length:=by rw [HLE.out j hj];exact hjn
   have hc2:(mk1 false y s).cells false=((mkE false k (ss.take j)++ss.drop j).getD j de).cells false:=by rw [HGJ.out.1];simp [mk1,El.cells,z0h]
   have hR2:=HOW.out.1.letters j hlk (mk1 false y s) hc2 (by rw [HGJ.out.1];exact HMI.out) (w':=w2) (by rw [HGJ.out.1];exact ho2)
   have hD2:=HOW.out.2.letters j hlk (mk1 false y s) (by rw [HGJ.out.1];rfl) (w':=w2) (by rw [HGJ.out.1];exact ho2) (by simpa [mk1,eO] using hm2)
   rw [HSTJ.out.1] at hR2 hD2;have HN2:Hid _:=And.intro hR2 hD2;have HO2:Hid (Only (fun b=>∃ s ∈ ss,zg s.a b) w w2):=HON.out.trans (ho2.mono (fun b _ hb=>⟨s,HIN'.out,hb⟩))
   clear hR2 hD2 hc2 hlk ho2 hm2 HOW HON HMI HGJ;go_wp2;go_roundw
   case rel=>exact ⟨j+1,_,by omega,by go_num,rfl,HYN.out.1.symm,HN2.out.1,HN2.out.2,HO2.out⟩
   case measure=>simp [intOf];omega
  ·have hjn2:j=n:=by omega
   subst hjn2;have HFO:Hid (OVr false wr B (.slice a j cap) (mkE false k ss)/\Deep wr B (mkE false k ss)):=by rw [<-HFI.out.1];exact HOW.out
   have HYF:Hid (y=k+(T:Nat)/\True):=⟨HY.out.1.trans HFI.out.2,trivial⟩;clear HOW hown hdeep;go_wp2;go_ret;exact ⟨by rw [<-HYF.out.1];rfl,HFO.out,HON.out⟩
theorem zah (a:Option Addr) (cap B:Nat) (ss:List El) (k:Int) (w:World) (h:OVr true w B (.slice a ss.length cap) ss) (hd:Deep w B ss) (hn:ss.length+zb ss<=1048576) (h0:0<=k) (h1:k+ss.length+zb ss<2097152) :
  Calls Tryz.prog 64 #[.slice a ss.length cap,.int .i64 k] w fun e w'=>e=.returned (.int .i64 (k+zb ss+ss.length))/\(OVr true w' B (.slice a ss.length cap) (mkE true k ss)/\Deep w' B (mkE true k ss))/\Only (fun b=>(Value.slice a ss.length cap).ownBlock=some b\/∃ s ∈ ss,zg s.a b) w w':=by
 have HST:Hid _:=z3z true k ss;have HGE:Hid _:=z6e true k ss;have HSU:Hid _:=z3v true k ss;have HLB:Hid _:=z55 true k ss;have HLE:Hid (∀ j,j<=ss.length->(mkE true k (ss.take j)++ss.drop j).length=ss.length):=fun j hj=>by rw [List.length_append,z1b,List.length_take,List.length_drop];omega
 have HO:Hid (OVr true w B (.slice a ss.length cap) ss/\Deep w B ss):=⟨h,hd⟩;have HMM:Hid (∀ j,j<ss.length->ss.getD j de ∈ ss/\(ss.getD j de).ls.length<=zb ss):=fun j hj=>⟨zf hj,z04 (zf hj)⟩
 clear h hd;have HFI:Hid (mkE true k (ss.take ss.length)++ss.drop ss.length=mkE true k ss/\mkA true k ss ss.length=k+zb ss+ss.length):=⟨by rw [List.take_length];simp,by rw [z5t];simp [eO]⟩
 generalize hlen:ss.length=n at *;have HL:Hid (ss.length=n/\True):=⟨hlen,trivial⟩;clear hlen;generalize hT:zb ss=T at *;clear hT
 go_enter Tryz.func64,Tryz.ntmps64
 go_wp2
 go_loopw [1,5] (fun q i wr=>∃ (j:Nat) (y:Int),j<=n/\i=.int .i64 j/\q=.int .i64 y/\y=mkA true k ss j/\OVr true wr B (.slice a n cap) (mkE true k (ss.take j)++ss.drop j)/\Deep wr B (mkE true k (ss.take j)++ss.drop j)/\Only (fun b=>(Value.slice a n cap).ownBlock=some b\/∃ s ∈ ss,zg s.a b) w wr) (fun _ i _=>n-(intOf i).toNat)
 case atStart=>exact ⟨0,k,Nat.zero_le _,rfl,rfl,by simp [mkA,zb],by simpa [mkE] using HO.out.1,by simpa [mkE] using HO.out.2,Only.refl _ _⟩
 case round=>
  clear HO;obtain ⟨j,y,hj,rfl,rfl,hy,hown,hdeep,honly⟩:=hrel;have hyb:=HLB.out j hj;have HY:Hid (y=mkA true k ss j/\True):=⟨hy,trivial⟩;rw [<-hy] at hyb;have HOW:Hid (OVr true wr B (.slice a n cap) (mkE true k (ss.take j)++ss.drop j)/\Deep wr B (mkE true k (ss.take j)++ss.drop j)):=⟨hown,hdeep⟩;have HON:Hid (Only (fun b=>(Value.slice a n cap).ownBlock=some b\/∃ s ∈ ss,zg s.a b) w wr):=honly
  clear hy
  by_cases hjn:j<n
  ·obtain ⟨g,cap',e',_,hg2,hfz,hli⟩:=hown.cell j (by rw [HLE.out j hj];exact hjn)
   have hl0:=(hli j (by rw [HLE.out j hj];exact hjn)).c0 rfl
   have hl1:=(hli j (by rw [HLE.out j hj];exact hjn)).c1
   have hmi:=hdeep.mine _ (zf (k:=j) (by rw [HLE.out j hj];exact hjn))
   rw [HGE.out j hjn] at hl0 hl1 hmi
   simp only [eW,eO,cond_true] at hl0 hl1
   obtain ⟨rfl,-,rfl⟩:a=some ⟨g,0,none⟩/\_/\cap=cap':=by simpa using e'
   have f0:=hfz (j*2);have hst:=HST.out j hjn;rw [<-HY.out.1] at hst;have HSTJ:Hid (_/\True):=⟨hst,trivial⟩;obtain ⟨HIN,hT2⟩:=HMM.out j hjn;have HGJ:Hid (_/\True):=⟨HGE.out j hjn,trivial⟩;have HYN:Hid (mkA true k ss (j+1)=y+1+(ss.getD j de).ls.length/\True):=⟨by rw [HSU.out j hjn,HY.out.1];simp [eO],trivial⟩
   have hlk:j<(mkE true k (ss.take j)++ss.drop j).length:=by rw [HLE.out j hj];exact hjn
   have hlk2:∀ s:El,j<((mkE true k (ss.take j)++ss.drop j).set j s).length:=fun s=>by rw [List.length_set];exact hlk
   have hgs:∀ s:El,((mkE true k (ss.take j)++ss.drop j).set j s).getD j de=s:=fun s=>by rw [z2z _ j j _ hlk,if_pos rfl]
   have hR1:=hown.store j hlk { (ss.getD j de) with n:=y } 0 (by simp [eW]) (.int .i64 y) (by rw [HGE.out j hjn];rfl) (g:=g) rfl
   have hon1:Only (fun b=>b=g) wr (wr.setCell ⟨g,j*2,none⟩ (.int .i64 y)):=(Only.refl (fun b=>b=g) wr).setCell (p:=⟨g,j*2,none⟩) (.inl rfl) _
   have hD1:=hdeep.stay hon1 (fun x hx b hb e=>hown.other (hdeep.mine x hx) (g:=g) rfl (e ▸ hb))
   have hD2:Deep (wr.setCell ⟨g,j*2,none⟩ (.int .i64 y)) B ((mkE true k (ss.take j)++ss.drop j).set j { (ss.getD j de) with n:=y }):=by
    refine ⟨fun t ht=>?_,by rw [z6k _ j _ (by rw [HGE.out j hjn]) hlk];exact hD1.apart⟩
    rcases List.mem_or_eq_of_mem_set ht with ht | rfl
    ·exact hD1.mine t ht
    ·have:=hD1.mine _ (zf hlk)
     rw [HGE.out j hjn] at this;exact this
   have hmi1:=hD2.mine _ (zf (hlk2 _));rw [hgs] at hmi1
   simp only at hmi1
   rw [show j*eW true+0=j*2 from by simp [eW]] at hR1
   have HR1:Hid (OVr true (wr.setCell ⟨g,j*2,none⟩ (.int .i64 y)) B (.slice (some ⟨g,0,none⟩) n cap) ((mkE true k (ss.take j)++ss.drop j).set j { (ss.getD j de) with n:=y })/\Deep (wr.setCell ⟨g,j*2,none⟩ (.int .i64 y)) B ((mkE true k (ss.take j)++ss.drop j).set j { (ss.getD j de) with n:=y })):=⟨hR1,hD2⟩
   have HMI:Hid (Mine (wr.setCell ⟨g,j*2,none⟩ (.int .i64 y)) B (wr.setCell ⟨g,j*2,none⟩ (.int .i64 y)).heap.size (ss.getD j de).a (ss.getD j de).c (ss.getD j de).ls):=hmi1;have HMK:=z28 (ss.getD j de).a B _ (ss.getD j de).c (ss.getD j de).ls (y+1) _ hmi1 (by omega) (by omega) (by omega)
   have HIN':Hid (ss.getD j de ∈ ss):=HIN;have HON1:Hid (Only (fun b=>(Value.slice (some ⟨g,0,none⟩) n cap).ownBlock=some b\/∃ s ∈ ss,zg s.a b) w (wr.setCell ⟨g,j*2,none⟩ (.int .i64 y))):=HON.out.trans (hon1.mono (fun b _ hb=>.inl (by rw [hb];rfl)))
   have HK2:Hid ((∀ s:El,j<((mkE true k (ss.take j)++ss.drop j).set j s).length)/\(∀ s:El,((mkE true k (ss.take j)++ss.drop j).set j s).getD j de=s)):=⟨hlk2,hgs⟩;clear hst hown hdeep honly hmi hli e' HIN HY hR1 hD1 hD2 hmi1 hon1 hlk hlk2 hgs hfz HON HOW;generalize hs:ss.getD j de=s at *;clear hs;go_wp2_with fail
   refine HMK.mono ?_;clear HMK;rintro e w2 ⟨rfl,hm2,ho2⟩;have hc2:(mk1 true y s).cells true=(((mkE true k (ss.take j)++ss.drop j).set j { s with n:=y }).getD j de).cells true:=by rw [HK2.out.2];simp [mk1,El.cells,z0h]
   have hR2:=HR1.out.1.letters j (HK2.out.1 _) (mk1 true y s) hc2 (by rw [HK2.out.2];exact HMI.out) (w':=w2) (by rw [HK2.out.2];exact ho2)
   have hD2:=HR1.out.2.letters j (HK2.out.1 _) (mk1 true y s) (by rw [HK2.out.2];rfl) (w':=w2) (by rw [HK2.out.2];exact ho2) (by simpa [mk1,eO] using hm2)
   rw [List.set_set,HSTJ.out.1] at hR2 hD2;have HN2:Hid _:=And.intro hR2 hD2;have HO2:Hid (Only (fun b=>(Value.slice (some ⟨g,0,none⟩) n cap).ownBlock=some b\/∃ s ∈ ss,zg s.a b) w w2):=HON1.out.trans (ho2.mono (fun b _ hb=>.inr ⟨s,HIN'.out,hb⟩))
   clear hR2 hD2 hc2 ho2 hm2 HMI HGJ HR1 HON1;go_wp2;go_roundw
   case rel=>exact ⟨j+1,_,by omega,by go_num,rfl,HYN.out.1.symm,HN2.out.1,HN2.out.2,HO2.out⟩
   case measure=>simp [intOf];omega
  ·have hjn2:j=n:=by omega
   subst hjn2;have HFO:Hid (OVr true wr B (.slice a j cap) (mkE true k ss)/\Deep wr B (mkE true k ss)):=by rw [<-HFI.out.1];exact HOW.out
   have HYF:Hid (y=k+(T:Nat)+(j:Nat)/\True):=⟨HY.out.1.trans HFI.out.2,trivial⟩;clear HOW hown hdeep;go_wp2;go_ret;exact ⟨by rw [<-HYF.out.1];rfl,HFO.out,HON.out⟩
def z6j (ss:List El):List El:=mkE false 1 ss
def zbb (ss ps:List El):List El:=mkE true (1+zb ss) ps
def mkN (ss ps:List El):Int:=1+zb ss+zb ps+ps.length
theorem zeb (sa pa:Option Addr) (sc pc B:Nat) (ss ps:List El) (w:World) (h:RawO w B (.slice sa ss.length sc) (.slice pa ps.length pc) ss ps) (hf:Few ss ps) :
  Calls Tryz.prog 25 #[.agg #[.slice sa ss.length sc,.slice pa ps.length pc],.int .i64 1] w fun e w'=>e=.returned (.int .i64 (mkN ss ps))/\RawO w' B (.slice sa ss.length sc) (.slice pa ps.length pc) (z6j ss) (zbb ss ps)/\Only (z3e (.slice sa ss.length sc) (.slice pa ps.length pc) ss ps) w w':=by
 have H0:Hid (RawO w B (.slice sa ss.length sc) (.slice pa ps.length pc) ss ps):=h;have HF:Hid (Few ss ps):=hf;clear h hf
 go_enter Tryz.func25,Tryz.ntmps25
 have HW:Hid (Bw w (w.alloc (Obj.cells #[.slice sa ss.length sc,.slice pa ps.length pc] 41))):=ba;have HX:Hid (Box2 (w.alloc (Obj.cells #[.slice sa ss.length sc,.slice pa ps.length pc] 41)) w.heap.size (.slice sa ss.length sc) (.slice pa ps.length pc)):=Box2.new _ _ _ _;have H1:Hid (RawO (w.alloc (Obj.cells #[.slice sa ss.length sc,.slice pa ps.length pc] 41)) B (.slice sa ss.length sc) (.slice pa ps.length pc) ss ps):=H0.out.below HW.out
 have HO1:Hid (Only (z3e (.slice sa ss.length sc) (.slice pa ps.length pc) ss ps) w (w.alloc (Obj.cells #[.slice sa ss.length sc,.slice pa ps.length pc] 41))):=(Only.refl _ _).alloc _;go_wp2_with fail
 generalize w.alloc (Obj.cells #[.slice sa ss.length sc,.slice pa ps.length pc] 41)=W at *;refine (z3k sa sc B ss 1 W H1.out.rs H1.out.deep.parts.1 (by have:=HF.out.sum;omega) (by omega) (by omega)).mono ?_
 rintro e w1 ⟨rfl,⟨hr1,hd1⟩,ho1⟩;have hin:∀ b,(∃ s ∈ ss,zg s.a b)->z3e (.slice sa ss.length sc) (.slice pa ps.length pc) ss ps b:=fun b ⟨s,hs,hb⟩=>.inr (.inr ⟨s,List.mem_append_left _ hs,hb⟩)
 have hx1:=HX.out.only ho1 (fun hs=>Nat.lt_irrefl _ (H0.out.inside _ (hin _ hs)).2)
 have hp1:OVr true w1 B (.slice pa ps.length pc) ps:=H1.out.rp.stay ho1 (fun b hb ⟨s,hs,hs2⟩=>H1.out.rp.other (H1.out.deep.mine s (List.mem_append_left _ hs)) hb hs2)
 have hq1:Deep w1 B ps:=H1.out.deep.parts.2.1.stay ho1 (fun x hx b hb ⟨s,hs,hs2⟩=>H1.out.deep.parts.2.2 s.a (List.mem_map.2 ⟨s,hs,rfl⟩) x.a (List.mem_map.2 ⟨x,hx,rfl⟩) b hs2 hb)
 have HR1:Hid ((OVr false w1 B (.slice sa ss.length sc) (z6j ss)/\Deep w1 B (z6j ss))/\OVr true w1 B (.slice pa ps.length pc) ps/\Deep w1 B ps):=⟨⟨hr1,hd1⟩,hp1,hq1⟩;have HO2:Hid (Only (z3e (.slice sa ss.length sc) (.slice pa ps.length pc) ss ps) w w1):=HO1.out.trans (ho1.mono (fun b _ hb=>hin b hb))
 have HCR:Hid (∀ x ∈ ss.map El.a,∀ y ∈ ps.map El.a,∀ k,zg x k->¬zg y k):=H1.out.deep.parts.2.2;have HSM:=HF.out.sum;clear hr1 hd1 ho1 hin hp1 hq1 HO1 H1 HX HW;obtain ⟨x0,x1,-,-,xl⟩:=hx1;have HMP:=zah pa pc B ps (1+zb ss) w1 HR1.out.2.1 HR1.out.2.2 (by omega) (by omega) (by omega)
 have HNN:Hid (mkN ss ps=1+(zb ss:Int)+zb ps+ps.length/\True):=⟨rfl,trivial⟩;generalize hE:zb ss=E at *;have HE:Hid (zb ss=E/\True):=⟨hE,trivial⟩;clear hE;go_wp2_with fail
 refine HMP.mono ?_;clear HMP;rintro e w2 ⟨rfl,⟨hr2,hd2⟩,ho2⟩;have hin2:∀ b,((Value.slice pa ps.length pc).ownBlock=some b\/∃ s ∈ ps,zg s.a b)->z3e (.slice sa ss.length sc) (.slice pa ps.length pc) ss ps b:=by
  rintro b (hb | ⟨s,hs,hb⟩)
  ·exact .inr (.inl hb)
  ·exact .inr (.inr ⟨s,List.mem_append_right _ hs,hb⟩)
 have HO3:Hid (Only (z3e (.slice sa ss.length sc) (.slice pa ps.length pc) ss ps) w w2):=HO2.out.trans (ho2.mono (fun b _ hb=>hin2 b hb))
 have hs2:OVr false w2 B (.slice sa ss.length sc) (z6j ss):=HR1.out.1.1.stay ho2 (by
  rintro b hb (h | ⟨s,hs,hs2⟩)
  ·exact HR1.out.1.1.two HR1.out.2.1 hb h
  ·exact HR1.out.1.1.other (HR1.out.2.2.mine s hs) hb hs2)
 have ht2:Deep w2 B (z6j ss):=HR1.out.1.2.stay ho2 (by
  rintro x hx b hb (h | ⟨s,hs,hs2⟩)
  ·exact HR1.out.2.1.other (HR1.out.1.2.mine x hx) h hb
  ·have hxa:x.a ∈ ss.map El.a:=by
    rw [<-zb6 false 1 ss];exact List.mem_map.2 ⟨x,hx,rfl⟩
   exact HCR.out x.a hxa s.a (List.mem_map.2 ⟨s,hs,rfl⟩) b hb hs2)
 have HFIN:Hid (RawO w2 B (.slice sa ss.length sc) (.slice pa ps.length pc) (z6j ss) (zbb ss ps)):=by
  refine ⟨hs2,?_,ht2.join ?_ ?_,?_,?_⟩
  ·unfold zbb;rw [HE.out.1];exact hr2
  ·unfold zbb;rw [HE.out.1];exact hd2
  ·unfold z6j zbb;rw [zb6,zb6];exact HCR.out
  ·exact z95 false 1 ss H0.out.rng.1 (by omega) (by have:=HE.out.1;omega)
  ·exact z95 true _ ps H0.out.rng.2 (by omega) (by have:=HE.out.1;omega)
 clear hr2 hd2 ho2 hin2 hs2 ht2 HR1 HO2 x0 x1;go_wp2;go_ret;exact ⟨by rw [HNN.out.1];rfl,HFIN.out,HO3.out⟩
def mkP (k:Int):Nat->List (Int × Int)
 | 0=>[]
 | n+1=>mkP k n++[(k+(n*2:Nat),k+(n*2:Nat)+1)]
theorem z87 (k:Int) (n:Nat):(mkP k n).length=n:=by
 induction n with
 | zero=>rfl
 | succ n ih=>simp [mkP,ih]
theorem zjb (k:Int) (ps:List (Int × Int)) (j:Nat) (h:j<ps.length):(mkP k j++ps.drop j).set j (k+(j*2:Nat),k+(j*2:Nat)+1)=mkP k (j+1)++ps.drop (j+1):=by
 rw [List.set_append_right _ _ (by rw [z87];exact Nat.le_refl _),z87,Nat.sub_self,List.drop_eq_getElem_cons h,List.set_cons_zero]
 simp [mkP]
theorem z85 (B g cap:Nat) (ps:List (Int × Int)) (k:Int) (w:World) (h:OwP w B g cap ps) (hn:ps.length<=1048576) (h0:0<=k) (h1:k<=4194304) :
  Calls Tryz.prog 101 #[.slice (some ⟨g,0,none⟩) ps.length cap,.int .i64 k] w fun e w'=>e=.returned (.int .i64 (k+(ps.length*2:Nat)))/\OwP w' B g cap (mkP k ps.length)/\Only (·=g) w w':=by
 generalize hlen:ps.length=n at *;have HL:Hid (ps.length=n/\True):=⟨hlen,trivial⟩;clear hlen;have HO:Hid (OwP w B g cap ps):=h;clear h
 go_enter Tryz.func101,Tryz.ntmps101
 go_wp2
 go_loopw [1,5] (fun q i wr=>∃ (j:Nat) (y:Int),j<=n/\i=.int .i64 j/\q=.int .i64 y/\y=k+(j*2:Nat)/\OwP wr B g cap (mkP k j++ps.drop j)/\Only (·=g) w wr) (fun _ i _=>n-(intOf i).toNat)
 case atStart=>exact ⟨0,k,Nat.zero_le _,rfl,rfl,by simp,by simpa [mkP] using HO.out,Only.refl _ _⟩
 case round=>
  obtain ⟨j,y,hj,rfl,rfl,hy,hown,honly⟩:=hrel;have HY:Hid (y=k+(j*2:Nat)/\True):=⟨hy,trivial⟩;have hyb:0<=y/\y<=8000000:=by omega
  by_cases hlt:j<n
  ·have hl:(mkP k j++ps.drop j).length=n:=by rw [List.length_append,z87,List.length_drop,HL.out.1];omega
   obtain ⟨c0,c1⟩:=hown.cell j (by omega)
   have f0:=hown.frozen (j*2);have f1:=hown.frozen (j*2+1);have R:=hown.store j (by omega) (y,y+1) ⟨by simp only;omega,by simp only;omega⟩
   rw [hy,zjb k ps j (by rw [HL.out.1];exact hlt),<-hy] at R
   have HR:Hid (OwP ((wr.setCell ⟨g,j*2,none⟩ (.int .i64 y)).setCell ⟨g,j*2+1,none⟩ (.int .i64 (y+1))) B g cap (mkP k (j+1)++ps.drop (j+1))):=R;have HB:Hid (Only (·=g) w ((wr.setCell ⟨g,j*2,none⟩ (.int .i64 y)).setCell ⟨g,j*2+1,none⟩ (.int .i64 (y+1)))):=(honly.setCell (.inl rfl) _).setCell (.inl rfl) _;generalize ((mkP k j++ps.drop j).getD j dp).1=o0 at *;generalize ((mkP k j++ps.drop j).getD j dp).2=o1 at *
   clear R hown honly hl hy;go_wp2;go_roundw
   case rel=>exact ⟨j+1,y+1+1,by omega,by go_num,by go_num,by rw [HY.out.1];omega,HR.out,HB.out⟩
   case measure=>simp [intOf];omega
  ·have hjn:j=n:=by omega
   subst hjn;have hown':=hown;rw [List.drop_of_length_le (by rw [HL.out.1];exact Nat.le_refl _),List.append_nil] at hown'
   have HF:Hid (OwP wr B g cap (mkP k j)):=hown';clear hown hown' hy;go_wp2;go_ret;exact ⟨by rw [<-HY.out.1];rfl,HF.out,honly⟩
theorem z8b (a:Option Addr) (B U cap:Nat) (ps:List (Int × Int)) (k:Int) (w:World) (h:MinP w B U a cap ps) (hn:ps.length<=1048576) (h0:0<=k) (h1:k<=4194304) :
  Calls Tryz.prog 101 #[.slice a ps.length cap,.int .i64 k] w fun e w'=>e=.returned (.int .i64 (k+(ps.length*2:Nat)))/\MinP w' B U a cap (mkP k ps.length)/\Only (zg a) w w':=by
 rcases h with ⟨rfl,rfl,rfl⟩ | ⟨g,rfl,g1,g2,h⟩
 ·go_enter Tryz.func101,Tryz.ntmps101
  go_wp2
  refine wp_loop_rounds 1 ?_;rw [rounds_succ];go_wp2;go_ret;exact ⟨by simp,.inl ⟨rfl,rfl,rfl⟩,Only.refl _ _⟩
 ·refine (z85 B g cap ps k w h hn h0 h1).mono ?_
  rintro e w' ⟨rfl,ho,hy⟩;exact ⟨rfl,.inr ⟨g,rfl,g1,g2,ho⟩,hy.mono (fun k _ hk=>⟨_,rfl,hk.symm⟩)⟩
theorem z5w (a:Option Addr) (B U cap:Nat) (ps:List (Int × Int)) (k:Int) (w:World) (h:MinP w B U a cap ps) (hU:U<=w.heap.size) (hn:ps.length<=1048576) (h0:0<=k) (h1:k<=4194304) :
  Calls Tryz.prog 58 #[.agg #[.slice a ps.length cap],.int .i64 k] w fun e w'=>e=.returned (.int .i64 (k+(ps.length*2:Nat)))/\MinP w' B U a cap (mkP k ps.length)/\Only (zg a) w w':=by
 have hw:Bw w (w.alloc (Obj.cells #[.slice a ps.length cap] 44)):=ba
 go_enter Tryz.func58,Tryz.ntmps58
 go_wp2_with fail
 refine (z8b a B U cap ps k _ (h.below hw) hn h0 h1).mono ?_;rintro e w1 ⟨rfl,hm,ho⟩;have HO:Hid (Only (zg a) w w1):=(Only.ofBelow hw nl).trans ho;have HM:Hid (MinP w1 B U a cap (mkP k ps.length)):=hm;clear hm ho;go_wp2;go_ret;exact ⟨rfl,HM.out,HO.out⟩
def z0q (k:Int):Nat->List Int
 | 0=>[]
 | n+1=>z0q k n++[k+n]
theorem z44 (k:Int) (n:Nat):(z0q k n).length=n:=by
 induction n with
 | zero=>rfl
 | succ n ih=>simp [z0q,ih]
theorem ze8 (k:Int) (zs:List Int) (j:Nat) (h:j<zs.length):(z0q k j++zs.drop j).set j (k+j)=z0q k (j+1)++zs.drop (j+1):=by
 rw [List.set_append_right _ _ (by rw [z44];exact Nat.le_refl _),z44,Nat.sub_self,List.drop_eq_getElem_cons h,List.set_cons_zero]
 simp [z0q]
theorem zbl (B g cap:Nat) (zs:List Int) (k:Int) (w:World) (h:OwI w B g cap zs) (hn:zs.length<=2097152) (h0:0<=k) (h1:k<=4194304) :
  Calls Tryz.prog 59 #[.slice (some ⟨g,0,none⟩) zs.length cap,.int .i64 k] w fun e w'=>e=.returned (.int .i64 (k+zs.length))/\OwI w' B g cap (z0q k zs.length)/\Only (·=g) w w':=by
 generalize hlen:zs.length=n at *;have HL:Hid (zs.length=n):=hlen;clear hlen;have HO:Hid (OwI w B g cap zs):=h;clear h
 go_enter Tryz.func59,Tryz.ntmps59
 go_wp2
 go_loopw [1,5] (fun q i wr=>∃ j:Nat,j<=n/\i=.int .i64 j/\q=.int .i64 (k+j)/\OwI wr B g cap (z0q k j++zs.drop j)/\Only (·=g) w wr) (fun _ i _=>n-(intOf i).toNat)
 case atStart=>exact ⟨0,Nat.zero_le _,rfl,by simp,by simpa [z0q] using HO.out,Only.refl _ _⟩
 case round=>
  obtain ⟨j,hj,rfl,rfl,hown,honly⟩:=hrel
  by_cases hlt:j<n
  ·have hl:(z0q k j++zs.drop j).length=n:=by rw [List.length_append,z44,List.length_drop,HL.out];omega
   have hdst:=hown.cell j (by omega)
   have hfz:=hown.frozen j;have R:=hown.store j (k+j) (by omega)
   rw [ze8 k zs j (by rw [HL.out];exact hlt)] at R
   have HR:Hid (OwI (wr.setCell ⟨g,j,none⟩ (.int .i64 (k+j))) B g cap (z0q k (j+1)++zs.drop (j+1))):=R;have HB:Hid (Only (·=g) w (wr.setCell ⟨g,j,none⟩ (.int .i64 (k+j)))):=honly.setCell (.inl rfl) _;generalize (z0q k j++zs.drop j).getD j 0=old at *;clear R hown honly hl;go_wp2;go_roundw
   case rel=>exact ⟨j+1,by omega,by go_num,by go_num,HR.out,HB.out⟩
   case measure=>simp [intOf];omega
  ·have hjn:j=n:=by omega
   subst hjn;have hown':=hown;rw [List.drop_of_length_le (by rw [HL.out];exact Nat.le_refl _),List.append_nil] at hown'
   have HF:Hid (OwI wr B g cap (z0q k j)):=hown';clear hown hown';go_wp2;go_ret;exact ⟨rfl,HF.out,honly⟩
theorem zcu (a:Option Addr) (B U cap:Nat) (zs:List Int) (k:Int) (w:World) (h:MinI w B U a cap zs) (hn:zs.length<=2097152) (h0:0<=k) (h1:k<=4194304) :
  Calls Tryz.prog 59 #[.slice a zs.length cap,.int .i64 k] w fun e w'=>e=.returned (.int .i64 (k+zs.length))/\MinI w' B U a cap (z0q k zs.length)/\Only (zg a) w w':=by
 rcases h with ⟨rfl,rfl,rfl⟩ | ⟨g,rfl,g1,g2,h⟩
 ·go_enter Tryz.func59,Tryz.ntmps59
  go_wp2
  refine wp_loop_rounds 1 ?_;rw [rounds_succ];go_wp2;go_ret;exact ⟨by simp,.inl ⟨rfl,rfl,rfl⟩,Only.refl _ _⟩
 ·refine (zbl B g cap zs k w h hn h0 h1).mono ?_
  rintro e w' ⟨rfl,ho,hy⟩;exact ⟨rfl,.inr ⟨g,rfl,g1,g2,ho⟩,hy.mono (fun k _ hk=>⟨_,rfl,hk.symm⟩)⟩
section
variable {w w' : World} {B : Nat} {v : Value} {es : List El}
theorem OVt.letters (h:OVt w B v es) (k:Nat) (hk:k<es.length) (s:El) (hs:s.cells true=(es.getD k de).cells true) (hm:Mine w B w.heap.size (es.getD k de).a (es.getD k de).c (es.getD k de).ls) (ho:Only (zg (es.getD k de).a) w w'):OVt w' B v (es.set k s):=by
 have h2:=h.stay ho (fun b hb=>h.other hm hb)
 exact ⟨by rw [List.length_set,z9x true es s k hk hs];exact h2.own⟩
end
theorem zae (a:Option Addr) (cap B:Nat) (ss:List El) (k:Int) (w:World) (h:OVt w B (.slice a ss.length cap) ss) (hd:Deep w B ss) (hn:ss.length+zb ss<=1048576) (h0:0<=k) (h1:k+ss.length+zb ss<=2097152) :
  Calls Tryz.prog 102 #[.slice a ss.length cap,.int .i64 k] w fun e w'=>e=.returned (.int .i64 (k+zb ss+ss.length))/\(OVt w' B (.slice a ss.length cap) (mkE true k ss)/\Deep w' B (mkE true k ss))/\Only (fun b=>(Value.slice a ss.length cap).ownBlock=some b\/∃ s ∈ ss,zg s.a b) w w':=by
 have HST:Hid _:=z3z true k ss;have HGE:Hid _:=z6e true k ss;have HSU:Hid _:=z3v true k ss;have HLB:Hid _:=z55 true k ss;have HLE:Hid (∀ j,j<=ss.length->(mkE true k (ss.take j)++ss.drop j).length=ss.length):=fun j hj=>by rw [List.length_append,z1b,List.length_take,List.length_drop];omega
 have HO:Hid (OVt w B (.slice a ss.length cap) ss/\Deep w B ss):=⟨h,hd⟩;have HMM:Hid (∀ j,j<ss.length->ss.getD j de ∈ ss/\(ss.getD j de).ls.length<=zb ss):=fun j hj=>⟨zf hj,z04 (zf hj)⟩
 clear h hd;have HFI:Hid (mkE true k (ss.take ss.length)++ss.drop ss.length=mkE true k ss/\mkA true k ss ss.length=k+zb ss+ss.length):=⟨by rw [List.take_length];simp,by rw [z5t];simp [eO]⟩
 generalize hlen:ss.length=n at *;have HL:Hid (ss.length=n/\True):=⟨hlen,trivial⟩;clear hlen;generalize hT:zb ss=T at *;clear hT
 go_enter Tryz.func102,Tryz.ntmps102
 go_wp2
 go_loopw [1,5] (fun q i wr=>∃ (j:Nat) (y:Int),j<=n/\i=.int .i64 j/\q=.int .i64 y/\y=mkA true k ss j/\OVt wr B (.slice a n cap) (mkE true k (ss.take j)++ss.drop j)/\Deep wr B (mkE true k (ss.take j)++ss.drop j)/\Only (fun b=>(Value.slice a n cap).ownBlock=some b\/∃ s ∈ ss,zg s.a b) w wr) (fun _ i _=>n-(intOf i).toNat)
 case atStart=>exact ⟨0,k,Nat.zero_le _,rfl,rfl,by simp [mkA,zb],by simpa [mkE] using HO.out.1,by simpa [mkE] using HO.out.2,Only.refl _ _⟩
 case round=>
  clear HO;obtain ⟨j,y,hj,rfl,rfl,hy,hown,hdeep,honly⟩:=hrel;have hyb:=HLB.out j hj;have HY:Hid (y=mkA true k ss j/\True):=⟨hy,trivial⟩;rw [<-hy] at hyb;have HOW:Hid (OVt wr B (.slice a n cap) (mkE true k (ss.take j)++ss.drop j)/\Deep wr B (mkE true k (ss.take j)++ss.drop j)):=⟨hown,hdeep⟩;have HON:Hid (Only (fun b=>(Value.slice a n cap).ownBlock=some b\/∃ s ∈ ss,zg s.a b) w wr):=honly
  clear hy
  by_cases hjn:j<n
  ·obtain ⟨g,cap',e',_,hg2,hfz,hli⟩:=hown.cell j (by rw [HLE.out j hj];exact hjn)
   have hl0:=(hli j (by rw [HLE.out j hj];exact hjn)).c0 rfl
   have hl1:=(hli j (by rw [HLE.out j hj];exact hjn)).c1
   have hmi:=hdeep.mine _ (zf (k:=j) (by rw [HLE.out j hj];exact hjn))
   rw [HGE.out j hjn] at hl0 hl1 hmi
   simp only [eW,eO,cond_true] at hl0 hl1
   obtain ⟨rfl,-,rfl⟩:a=some ⟨g,0,none⟩/\_/\cap=cap':=by simpa using e'
   have f0:=hfz (j*2);have hst:=HST.out j hjn;rw [<-HY.out.1] at hst;have HSTJ:Hid (_/\True):=⟨hst,trivial⟩;obtain ⟨HIN,hT2⟩:=HMM.out j hjn;have HGJ:Hid (_/\True):=⟨HGE.out j hjn,trivial⟩;have HYN:Hid (mkA true k ss (j+1)=y+1+(ss.getD j de).ls.length/\True):=⟨by rw [HSU.out j hjn,HY.out.1];simp [eO],trivial⟩
   have hlk:j<(mkE true k (ss.take j)++ss.drop j).length:=by rw [HLE.out j hj];exact hjn
   have hlk2:∀ s:El,j<((mkE true k (ss.take j)++ss.drop j).set j s).length:=fun s=>by rw [List.length_set];exact hlk
   have hgs:∀ s:El,((mkE true k (ss.take j)++ss.drop j).set j s).getD j de=s:=fun s=>by rw [z2z _ j j _ hlk,if_pos rfl]
   have hR1:=hown.store j hlk { (ss.getD j de) with n:=y } 0 (by simp [eW]) (.int .i64 y) (by rw [HGE.out j hjn];rfl) (g:=g) rfl
   have hon1:Only (fun b=>b=g) wr (wr.setCell ⟨g,j*2,none⟩ (.int .i64 y)):=(Only.refl (fun b=>b=g) wr).setCell (p:=⟨g,j*2,none⟩) (.inl rfl) _
   have hD1:=hdeep.stay hon1 (fun x hx b hb e=>hown.other (hdeep.mine x hx) (g:=g) rfl (e ▸ hb))
   have hD2:Deep (wr.setCell ⟨g,j*2,none⟩ (.int .i64 y)) B ((mkE true k (ss.take j)++ss.drop j).set j { (ss.getD j de) with n:=y }):=by
    refine ⟨fun t ht=>?_,by rw [z6k _ j _ (by rw [HGE.out j hjn]) hlk];exact hD1.apart⟩
    rcases List.mem_or_eq_of_mem_set ht with ht | rfl
    ·exact hD1.mine t ht
    ·have:=hD1.mine _ (zf hlk)
     rw [HGE.out j hjn] at this;exact this
   have hmi1:=hD2.mine _ (zf (hlk2 _));rw [hgs] at hmi1
   simp only at hmi1
   rw [show j*eW true+0=j*2 from by simp [eW]] at hR1
   have HR1:Hid (OVt (wr.setCell ⟨g,j*2,none⟩ (.int .i64 y)) B (.slice (some ⟨g,0,none⟩) n cap) ((mkE true k (ss.take j)++ss.drop j).set j { (ss.getD j de) with n:=y })/\Deep (wr.setCell ⟨g,j*2,none⟩ (.int .i64 y)) B ((mkE true k (ss.take j)++ss.drop j).set j { (ss.getD j de) with n:=y })):=⟨hR1,hD2⟩
   have HMI:Hid (Mine (wr.setCell ⟨g,j*2,none⟩ (.int .i64 y)) B (wr.setCell ⟨g,j*2,none⟩ (.int .i64 y)).heap.size (ss.getD j de).a (ss.getD j de).c (ss.getD j de).ls):=hmi1;have HMK:=z28 (ss.getD j de).a B _ (ss.getD j de).c (ss.getD j de).ls (y+1) _ hmi1 (by omega) (by omega) (by have h9:=HLB.out (j+1) (by omega);rw [HYN.out.1] at h9;omega)
   have HIN':Hid (ss.getD j de ∈ ss):=HIN;have HON1:Hid (Only (fun b=>(Value.slice (some ⟨g,0,none⟩) n cap).ownBlock=some b\/∃ s ∈ ss,zg s.a b) w (wr.setCell ⟨g,j*2,none⟩ (.int .i64 y))):=HON.out.trans (hon1.mono (fun b _ hb=>.inl (by rw [hb];rfl)))
   have HK2:Hid ((∀ s:El,j<((mkE true k (ss.take j)++ss.drop j).set j s).length)/\(∀ s:El,((mkE true k (ss.take j)++ss.drop j).set j s).getD j de=s)):=⟨hlk2,hgs⟩;clear hst hown hdeep honly hmi hli e' HIN HY hR1 hD1 hD2 hmi1 hon1 hlk hlk2 hgs hfz HON HOW;generalize hs:ss.getD j de=s at *;clear hs;go_wp2_with fail
   refine HMK.mono ?_;clear HMK;rintro e w2 ⟨rfl,hm2,ho2⟩;have hc2:(mk1 true y s).cells true=(((mkE true k (ss.take j)++ss.drop j).set j { s with n:=y }).getD j de).cells true:=by rw [HK2.out.2];simp [mk1,El.cells,z0h]
   have hR2:=HR1.out.1.letters j (HK2.out.1 _) (mk1 true y s) hc2 (by rw [HK2.out.2];exact HMI.out) (w':=w2) (by rw [HK2.out.2];exact ho2)
   have hD2:=HR1.out.2.letters j (HK2.out.1 _) (mk1 true y s) (by rw [HK2.out.2];rfl) (w':=w2) (by rw [HK2.out.2];exact ho2) (by simpa [mk1,eO] using hm2)
   rw [List.set_set,HSTJ.out.1] at hR2 hD2;have HN2:Hid _:=And.intro hR2 hD2;have HO2:Hid (Only (fun b=>(Value.slice (some ⟨g,0,none⟩) n cap).ownBlock=some b\/∃ s ∈ ss,zg s.a b) w w2):=HON1.out.trans (ho2.mono (fun b _ hb=>.inr ⟨s,HIN'.out,hb⟩))
   clear hR2 hD2 hc2 ho2 hm2 HMI HGJ HR1 HON1;go_wp2;go_roundw
   case rel=>exact ⟨j+1,_,by omega,by go_num,rfl,HYN.out.1.symm,HN2.out.1,HN2.out.2,HO2.out⟩
   case measure=>simp [intOf];omega
  ·have hjn2:j=n:=by omega
   subst hjn2;have HFO:Hid (OVt wr B (.slice a j cap) (mkE true k ss)/\Deep wr B (mkE true k ss)):=by rw [<-HFI.out.1];exact HOW.out
   have HYF:Hid (y=k+(T:Nat)+(j:Nat)/\True):=⟨HY.out.1.trans HFI.out.2,trivial⟩;clear HOW hown hdeep;go_wp2;go_ret;exact ⟨by rw [<-HYF.out.1];rfl,HFO.out,HON.out⟩
theorem zcj (E O:Int) (a:Option Addr) (cap B:Nat) (ss:List El) (k:Int) (w:World) (h:OVt w B (.slice a ss.length cap) ss) (hd:Deep w B ss) (hn:ss.length+zb ss<=1048576) (h0:0<=k) (h1:k+ss.length+zb ss<=2097152) :
  Calls Tryz.prog 60 #[.agg #[.int .i64 E,.int .i64 O,.slice a ss.length cap],.int .i64 k] w fun e w'=>e=.returned (.int .i64 (k+zb ss+ss.length))/\(OVt w' B (.slice a ss.length cap) (mkE true k ss)/\Deep w' B (mkE true k ss))/\Only (fun b=>(Value.slice a ss.length cap).ownBlock=some b\/∃ s ∈ ss,zg s.a b) w w':=by
 have hw:Bw w (w.alloc (Obj.cells #[.int .i64 E,.int .i64 O,.slice a ss.length cap] 47)):=ba;have HM:=zae a cap B ss k _ (h.below hw) (hd.below hw) hn h0 h1;clear h hd
 go_enter Tryz.func60,Tryz.ntmps60
 go_wp2_with fail
 refine HM.mono ?_;clear HM;rintro e w1 ⟨rfl,h2,h3⟩;have HF:Hid ((OVt w1 B (.slice a ss.length cap) (mkE true k ss)/\Deep w1 B (mkE true k ss))/\Only (fun b=>(Value.slice a ss.length cap).ownBlock=some b\/∃ s ∈ ss,zg s.a b) w w1):=⟨h2,((Only.refl (fun b=>(Value.slice a ss.length cap).ownBlock=some b\/∃ s ∈ ss,zg s.a b) w).alloc _).trans h3⟩
 clear h2 h3 hw;go_wp2;go_ret;exact ⟨rfl,HF.out.1,HF.out.2⟩
theorem zau (a:Option Addr) (cap:Nat) (k:Int) (w:World):Calls Tryz.prog 102 #[.slice a 0 cap,.int .i64 k] w fun e w'=>e=.returned (.int .i64 k)/\w'=w:=by
 go_enter Tryz.func102,Tryz.ntmps102
 go_wp2
 go_loopw [1,5] (fun q i wr=>i=.int .i64 0/\q=.int .i64 k/\wr=w) (fun _ _ _=>0)
 case atStart=>exact ⟨rfl,rfl,rfl⟩
 case round=>
  obtain ⟨rfl,rfl,rfl⟩:=hrel;go_wp2;go_ret;exact ⟨rfl,rfl⟩
theorem zba (E O:Int) (a:Option Addr) (cap:Nat) (k:Int) (w:World):Calls Tryz.prog 60 #[.agg #[.int .i64 E,.int .i64 O,.slice a 0 cap],.int .i64 k] w fun e w'=>e=.returned (.int .i64 k)/\Below w.heap.size w w':=by
 have hw:Bw w (w.alloc (Obj.cells #[.int .i64 E,.int .i64 O,.slice a 0 cap] 47)):=ba;have HM:=zau a cap k (w.alloc (Obj.cells #[.int .i64 E,.int .i64 O,.slice a 0 cap] 47))
 go_enter Tryz.func60,Tryz.ntmps60
 go_wp2_with fail
 refine HM.mono ?_;clear HM;rintro e w1 ⟨rfl,rfl⟩;go_wp2;go_ret;exact ⟨rfl,hw⟩
theorem zak (E O:Int) (a:Option Addr) (cap B:Nat) (ss:List El) (k:Int) (w:World) (h:OVt w B (.slice a ss.length cap) ss) (hd:Deep w B ss) (hn:ss.length+zb ss<=1048576) (h0:0<=k) (h1:ss.length=0\/k+ss.length+zb ss<=2097152) :
  Calls Tryz.prog 60 #[.agg #[.int .i64 E,.int .i64 O,.slice a ss.length cap],.int .i64 k] w fun e w'=>e=.returned (.int .i64 (k+zb ss+ss.length))/\Only (fun b=>(Value.slice a ss.length cap).ownBlock=some b\/∃ s ∈ ss,zg s.a b) w w':=by
 rcases h1 with h1 | h1
 ·obtain rfl:ss=[]:=List.eq_nil_of_length_eq_zero h1
  refine (zba E O a cap k w).mono ?_;rintro e w1 ⟨rfl,hb⟩;exact ⟨by simp [zb],Only.ofBelow hb nl⟩
 ·exact (zcj E O a cap B ss k w h hd hn h0 h1).mono fun e w1 h2=>⟨h2.1,h2.2.2⟩
structure Snp (w W:World) (N U V Z:Nat) (PB PW PX PG:World->Prop):Prop where
 bel:Below w.heap.size w W
 ord:w.heap.size<=N/\N<=U/\U<=V/\V<=Z/\Z<=W.heap.size
 sb:Stab w.heap.size N PB
 hb:PB W
 sw:Stab N U PW
 hw:PW W
 sx:Stab U V PX
 hx:PX W
 sg:Stab V Z PG
 hg:PG W
section
variable {w W W' : World} {N U V Z : Nat} {PB PW PX PG : World -> Prop}
theorem Snp.step (h:Snp w W N U V Z PB PW PX PG) (hb:Below W.heap.size W W'):Snp w W' N U V Z PB PW PX PG:=by
 have o:=h.ord;have hs:=hb.size;have ho:Only (fun _=>False) W W':=Only.ofBelow hb nl
 exact ⟨h.bel.trans (hb.mono (by omega)),by omega,h.sb,h.sb _ _ _ h.hb ho (by simp) (by omega),h.sw,h.sw _ _ _ h.hw ho (by simp) (by omega),h.sx,h.sx _ _ _ h.hx ho (by simp) (by omega),h.sg,h.sg _ _ _ h.hg ho (by simp) (by omega)⟩
theorem Snp.markX {T:Nat->Prop} {PX':World->Prop} (h:Snp w W N U V Z PB PW PX PG) (ho:Only T W W') (hT:∀ k,T k->U<=k/\k<V) (sx:Stab U V PX') (hx:PX' W'):Snp w W' N U V Z PB PW PX' PG:=by
 have o:=h.ord;have hs:=ho.size;have hbel:Below w.heap.size W W':=ho.below (by omega) (fun k hk=>by have:=hT k hk;omega)
 exact ⟨h.bel.trans hbel,by omega,h.sb,h.sb _ _ _ h.hb ho (fun k h1 h2 hk=>by have:=hT k hk;omega) (by omega),h.sw,h.sw _ _ _ h.hw ho (fun k h1 h2 hk=>by have:=hT k hk;omega) (by omega),sx,hx,h.sg,h.sg _ _ _ h.hg ho (fun k h1 h2 hk=>by have:=hT k hk;omega) (by omega)⟩
theorem Snp.markG {T:Nat->Prop} {PG':World->Prop} (h:Snp w W N U V Z PB PW PX PG) (ho:Only T W W') (hT:∀ k,T k->V<=k/\k<Z) (sg:Stab V Z PG') (hg:PG' W'):Snp w W' N U V Z PB PW PX PG':=by
 have o:=h.ord;have hs:=ho.size;have hbel:Below w.heap.size W W':=ho.below (by omega) (fun k hk=>by have:=hT k hk;omega)
 exact ⟨h.bel.trans hbel,by omega,h.sb,h.sb _ _ _ h.hb ho (fun k h1 h2 hk=>by have:=hT k hk;omega) (by omega),h.sw,h.sw _ _ _ h.hw ho (fun k h1 h2 hk=>by have:=hT k hk;omega) (by omega),h.sx,h.sx _ _ _ h.hx ho (fun k h1 h2 hk=>by have:=hT k hk;omega) (by omega),sg,hg⟩
end
theorem MinI.rowT {W:World} {B D:Nat} {a:Option Addr} {c:Nat} {zs:List Int} (h:MinI W B D a c zs) {k:Nat} (hk:zg a k):B<=k/\k<D:=by
 obtain ⟨x,hx,rfl⟩:=hk;rcases h with ⟨h',_⟩ | ⟨g,h',g1,g2,_⟩
 ·rw [h'] at hx;cases hx
 ·rw [h'] at hx
  simp at hx
  rw [<-hx];exact ⟨g1,g2⟩
set_option linter.unusedSimpArgs false
theorem Dk10.only {S:Nat->Prop} {W W':World} {b:Nat} {d:DkV} (h:Dk10 W b d) (ho:Only S W W') (hs:¬S b):Dk10 W' b d:=⟨ho.cell h.lt hs h.c0,ho.cell h.lt hs h.c1,ho.cell h.lt hs h.c2,ho.cell h.lt hs h.c3,ho.cell h.lt hs h.c4,ho.cell h.lt hs h.c5,ho.cell h.lt hs h.c6,ho.cell h.lt hs h.c7,ho.cell h.lt hs h.c8,ho.cell h.lt hs h.c9,Nat.lt_of_lt_of_le h.lt ho.size⟩
theorem zd0 (d:DkV) (B B1 B2 B3 B4 Z:Nat) (w:World) (h:DkO w B B1 B2 B3 B4 Z d) (hZ:Z<=w.heap.size) (hf:DkF d) :
  Calls Tryz.prog 16 #[.agg #[.slice d.sa d.ss.length d.sc,.slice d.pa d.ps.length d.pc,.int .i64 d.E,.int .i64 d.O,.slice d.ma d.ms.length d.mc,.slice d.va d.vs.length d.vc,.slice d.ca d.cs.length d.cc,.int .i64 d.F,.int .i64 d.G,.slice d.oa d.os.length d.oc],.int .i64 1] w fun e w'=>(∃ z:Int,e=.returned (.int .i64 z)/\0<=z/\z<=4194304)/\Only (fun b=>B<=b/\b<Z) w w':=by
 have hw:Bw w (w.alloc (Obj.cells #[.slice d.sa d.ss.length d.sc,.slice d.pa d.ps.length d.pc,.int .i64 d.E,.int .i64 d.O,.slice d.ma d.ms.length d.mc,.slice d.va d.vs.length d.vc,.slice d.ca d.cs.length d.cc,.int .i64 d.F,.int .i64 d.G,.slice d.oa d.os.length d.oc] 49)):=ba;have hx0:=Dk10.new w d 49;have h0:=(DkO.stab nl nl).below h hw hZ;have HO0:Hid (Only (fun b=>B<=b/\b<Z) w (w.alloc (Obj.cells #[.slice d.sa d.ss.length d.sc,.slice d.pa d.ps.length d.pc,.int .i64 d.E,.int .i64 d.O,.slice d.ma d.ms.length d.mc,.slice d.va d.vs.length d.vc,.slice d.ca d.cs.length d.cc,.int .i64 d.F,.int .i64 d.G,.slice d.oa d.os.length d.oc] 49))/\Z<=((w.alloc (Obj.cells #[.slice d.sa d.ss.length d.sc,.slice d.pa d.ps.length d.pc,.int .i64 d.E,.int .i64 d.O,.slice d.ma d.ms.length d.mc,.slice d.va d.vs.length d.vc,.slice d.ca d.cs.length d.cc,.int .i64 d.F,.int .i64 d.G,.slice d.oa d.os.length d.oc] 49))).heap.size/\Z<=w.heap.size):=⟨Only.ofBelow hw nl,Nat.le_trans hZ hw.size,hZ⟩
 have hord:=h.ord;have HN:Hid (DkF d):=hf;have hsum:=hf.sum;unfold dkN at hsum;have H1:=zeb d.sa d.pa d.sc d.pc B d.ss d.ps _ h0.raw.o hf.raw;have HD0:Hid (DkO (w.alloc (Obj.cells #[.slice d.sa d.ss.length d.sc,.slice d.pa d.ps.length d.pc,.int .i64 d.E,.int .i64 d.O,.slice d.ma d.ms.length d.mc,.slice d.va d.vs.length d.vc,.slice d.ca d.cs.length d.cc,.int .i64 d.F,.int .i64 d.G,.slice d.oa d.os.length d.oc] 49)) B B1 B2 B3 B4 Z d):=h0
 clear h h0 hf hw hZ
 go_enter Tryz.func16,Tryz.ntmps16
 go_wp2_with fail
 generalize (w.alloc (Obj.cells #[.slice d.sa d.ss.length d.sc,.slice d.pa d.ps.length d.pc,.int .i64 d.E,.int .i64 d.O,.slice d.ma d.ms.length d.mc,.slice d.va d.vs.length d.vc,.slice d.ca d.cs.length d.cc,.int .i64 d.F,.int .i64 d.G,.slice d.oa d.os.length d.oc] 49))=W0 at *;refine H1.mono ?_;clear H1;rintro e w1 ⟨rfl,-,ho1⟩;have hT1:∀ k,z3e (.slice d.sa d.ss.length d.sc) (.slice d.pa d.ps.length d.pc) d.ss d.ps k->B<=k/\k<B1:=fun k hk=>⟨(HD0.out.raw.o.inside k hk).1,HD0.out.raw.r k hk⟩
 have hx1:=hx0.only ho1 (fun hk=>by have:=hT1 _ hk;have:=HO0.out.2.2;omega)
 have HO1:Hid (Only (fun b=>B<=b/\b<Z) w w1/\Z<=w1.heap.size/\Z<=w.heap.size):=⟨HO0.out.1.trans (ho1.mono (fun k _ hk=>by have:=hT1 k hk;omega)),Nat.le_trans HO0.out.2.1 ho1.size,HO0.out.2.2⟩
 have HD1:Hid (MinP w1 B1 B2 d.ma d.mc d.ms/\MinP w1 B2 B3 d.va d.vc d.vs/\MinI w1 B3 B4 d.ca d.cc d.cs/\CopV w1 B4 Z (.slice d.oa d.os.length d.oc) d.os d.os):=by
  have hz:=HO0.out.2.1;exact ⟨z10 (lo:=B1) (hi:=Z) (by omega) (by omega) _ _ _ HD0.out.map ho1 (fun k h1 h2 hk=>by have:=hT1 k hk;omega) hz,z10 (lo:=B1) (hi:=Z) (by omega) (by omega) _ _ _ HD0.out.sav ho1 (fun k h1 h2 hk=>by have:=hT1 k hk;omega) hz,Stab.minI (lo:=B1) (hi:=Z) (by omega) (by omega) _ _ _ HD0.out.chn ho1 (fun k h1 h2 hk=>by have:=hT1 k hk;omega) hz,CopV.stab (lo:=B1) (hi:=Z) (by omega) (by omega) _ _ _ HD0.out.opn ho1 (fun k h1 h2 hk=>by have:=hT1 k hk;omega) hz⟩
 have hk1:0<=mkN d.ss d.ps/\mkN d.ss d.ps<=2097152:=by unfold mkN;omega
 have HK1:Hid (mkN d.ss d.ps=1+zb d.ss+zb d.ps+d.ps.length):=rfl;generalize mkN d.ss d.ps=k1 at *;clear ho1 hT1 hx0 HO0 HD0;obtain ⟨x0,x1,x2,x3,x4,x5,x6,x7,x8,x9,xl⟩:=id hx1;have H2:=z5w d.ma B1 B2 d.mc d.ms k1 w1 HD1.out.1 (by have:=HO1.out.2.1;omega) HN.out.ms hk1.1 (by omega)
 go_wp2_with fail
 clear x0 x1 x2 x3 x4 x5 x6 x7 x8 x9 xl;refine H2.mono ?_;clear H2;rintro e w2 ⟨rfl,hm2,ho2⟩;have hT2:∀ k,zg d.ma k->B1<=k/\k<B2:=fun k hk=>hm2.row hk
 have hx2:=hx1.only ho2 (fun hk=>by have:=hT2 _ hk;have:=HO1.out.2.2;omega)
 have HO2:Hid (Only (fun b=>B<=b/\b<Z) w w2/\Z<=w2.heap.size/\Z<=w.heap.size):=⟨HO1.out.1.trans (ho2.mono (fun k _ hk=>by have:=hT2 k hk;omega)),Nat.le_trans HO1.out.2.1 ho2.size,HO1.out.2.2⟩
 have HD2:Hid (MinP w2 B2 B3 d.va d.vc d.vs/\MinI w2 B3 B4 d.ca d.cc d.cs/\CopV w2 B4 Z (.slice d.oa d.os.length d.oc) d.os d.os):=by
  have hz:=HO1.out.2.1;exact ⟨z10 (lo:=B2) (hi:=Z) (by omega) (by omega) _ _ _ HD1.out.2.1 ho2 (fun k h1 h2 hk=>by have:=hT2 k hk;omega) hz,Stab.minI (lo:=B2) (hi:=Z) (by omega) (by omega) _ _ _ HD1.out.2.2.1 ho2 (fun k h1 h2 hk=>by have:=hT2 k hk;omega) hz,CopV.stab (lo:=B2) (hi:=Z) (by omega) (by omega) _ _ _ HD1.out.2.2.2 ho2 (fun k h1 h2 hk=>by have:=hT2 k hk;omega) hz⟩
 obtain ⟨k2,hk2⟩:∃ k2:Int,k2=k1+(d.ms.length*2:Nat):=⟨_,rfl⟩;rw [<-hk2];have hk2b:0<=k2/\k2<=4194304:=by have:=HK1.out;omega
 have HK2:Hid (k2=1+zb d.ss+zb d.ps+d.ps.length+2*(d.ms.length:Int)):=by have:=HK1.out;exact (by omega:k2=1+zb d.ss+zb d.ps+d.ps.length+2*(d.ms.length:Int))
 clear ho2 hT2 hm2 hx1 HO1 HD1 hk1 hk2 HK1;obtain ⟨x0,x1,x2,x3,x4,x5,x6,x7,x8,x9,xl⟩:=id hx2;have H3:=z5w d.va B2 B3 d.vc d.vs k2 w2 HD2.out.1 (by have:=HO2.out.2.1;omega) HN.out.vs hk2b.1 hk2b.2
 go_wp2_with fail
 clear x0 x1 x2 x3 x4 x5 x6 x7 x8 x9 xl;refine H3.mono ?_;clear H3;rintro e w3 ⟨rfl,hm3,ho3⟩;have hT3:∀ k,zg d.va k->B2<=k/\k<B3:=fun k hk=>hm3.row hk
 have hx3:=hx2.only ho3 (fun hk=>by have:=hT3 _ hk;have:=HO2.out.2.2;omega)
 have HO3:Hid (Only (fun b=>B<=b/\b<Z) w w3/\Z<=w3.heap.size/\Z<=w.heap.size):=⟨HO2.out.1.trans (ho3.mono (fun k _ hk=>by have:=hT3 k hk;omega)),Nat.le_trans HO2.out.2.1 ho3.size,HO2.out.2.2⟩
 have HD3:Hid (MinI w3 B3 B4 d.ca d.cc d.cs/\CopV w3 B4 Z (.slice d.oa d.os.length d.oc) d.os d.os):=by
  have hz:=HO2.out.2.1;exact ⟨Stab.minI (lo:=B3) (hi:=Z) (by omega) (by omega) _ _ _ HD2.out.2.1 ho3 (fun k h1 h2 hk=>by have:=hT3 k hk;omega) hz,CopV.stab (lo:=B3) (hi:=Z) (by omega) (by omega) _ _ _ HD2.out.2.2 ho3 (fun k h1 h2 hk=>by have:=hT3 k hk;omega) hz⟩
 obtain ⟨k3,hk3⟩:∃ k3:Int,k3=k2+(d.vs.length*2:Nat):=⟨_,rfl⟩;rw [<-hk3];have HK3:Hid (k3=1+zb d.ss+zb d.ps+d.ps.length+2*(d.ms.length:Int)+2*(d.vs.length:Int)):=by have:=HK2.out;exact (by omega:k3=1+zb d.ss+zb d.ps+d.ps.length+2*(d.ms.length:Int)+2*(d.vs.length:Int))
 have hk3b:0<=k3/\k3<=4194304:=by have:=HK3.out;omega
 clear ho3 hT3 hm3 hx2 HO2 HD2 hk2b HK2 hk3;obtain ⟨x0,x1,x2,x3,x4,x5,x6,x7,x8,x9,xl⟩:=id hx3;have H4:=zcu d.ca B3 B4 d.cc d.cs k3 w3 HD3.out.1 (by have:=HN.out.cs;omega) hk3b.1 hk3b.2
 go_wp2_with fail
 clear x0 x1 x2 x3 x4 x5 x6 x7 x8 x9 xl;refine H4.mono ?_;clear H4;rintro e w4 ⟨rfl,hm4,ho4⟩;have hT4:∀ k,zg d.ca k->B3<=k/\k<B4:=fun k hk=>hm4.rowT hk
 have hx4:=hx3.only ho4 (fun hk=>by have:=hT4 _ hk;have:=HO3.out.2.2;omega)
 have HO4:Hid (Only (fun b=>B<=b/\b<Z) w w4/\Z<=w4.heap.size/\Z<=w.heap.size):=⟨HO3.out.1.trans (ho4.mono (fun k _ hk=>by have:=hT4 k hk;omega)),Nat.le_trans HO3.out.2.1 ho4.size,HO3.out.2.2⟩
 have HD4:Hid (CopV w4 B4 Z (.slice d.oa d.os.length d.oc) d.os d.os/\True):=by
  have hz:=HO3.out.2.1;exact ⟨CopV.stab (lo:=B4) (hi:=Z) (by omega) (by omega) _ _ _ HD3.out.2 ho4 (fun k h1 h2 hk=>by have:=hT4 k hk;omega) hz,trivial⟩
 obtain ⟨k4,hk4⟩:∃ k4:Int,k4=k3+d.cs.length:=⟨_,rfl⟩;rw [<-hk4];have HK4:Hid (k4=1+zb d.ss+zb d.ps+d.ps.length+2*(d.ms.length:Int)+2*(d.vs.length:Int)+d.cs.length):=by have:=HK3.out;exact (by omega:k4=1+zb d.ss+zb d.ps+d.ps.length+2*(d.ms.length:Int)+2*(d.vs.length:Int)+d.cs.length)
 have hk4b:0<=k4:=by have:=HK4.out;omega
 have hk4c:d.os.length=0\/k4+d.os.length+zb d.os<=2097152:=by have:=HK4.out;omega
 clear ho4 hT4 hm4 hx3 HO3 HD3 hk3b HK3 hk4;obtain ⟨x0,x1,x2,x3,x4,x5,x6,x7,x8,x9,xl⟩:=id hx4;have H5:=zak d.F d.G d.oa d.oc B4 d.os k4 w4 HD4.out.1.cop.row HD4.out.1.cop.deep HN.out.opn.sum hk4b hk4c;go_wp2_with fail
 clear x0 x1 x2 x3 x4 x5 x6 x7 x8 x9 xl;refine H5.mono ?_;clear H5;rintro e w5 ⟨rfl,ho5⟩;have hT5:∀ k,((Value.slice d.oa d.os.length d.oc).ownBlock=some k\/∃ s ∈ d.os,zg s.a k)->B4<=k/\k<Z:=fun k hk=>by
  rcases hk with hk | ⟨s,hs,hk⟩
  ·exact ⟨(HD4.out.1.cop.row.blk hk).1,HD4.out.1.r k hk⟩
  ·exact ⟨((HD4.out.1.cop.deep.mine s hs).rowE hk).1,HD4.out.1.d s hs k hk⟩
 have HF:Hid (Only (fun b=>B<=b/\b<Z) w w5):=HO4.out.1.trans (ho5.mono (fun k _ hk=>by have:=hT5 k hk;omega))
 obtain ⟨k5,hk5⟩:∃ k5:Int,k5=k4+(zb d.os:Nat)+(d.os.length:Nat):=⟨_,rfl⟩;rw [<-hk5];have hk5b:0<=k5/\k5<=4194304:=by have:=HK4.out;have:=HN.out.sum;unfold dkN at this;omega
 clear ho5 hT5 HO4 HD4 hk5 hk4c hk4b HK4 hx4;go_wp2;go_ret;exact ⟨⟨k5,rfl,hk5b⟩,HF.out⟩
theorem Dk10.stab {lo hi b:Nat} {d:DkV} (h1:lo<=b) (h2:b<hi):Stab lo hi (fun W=>Dk10 W b d):=fun T W W' hp ho ht hl=>hp.only ho (ht b h1 h2)
theorem zax (a:Option Addr) (cap n:Nat) (k:Int) (w:World) (h:Byt w a (z09 k n)) (hn:n<=2097152) (h0:0<=k) (h1:k<=2097152) :
  Calls Tryz.prog 18 #[.slice a n cap,.int .i64 k] w fun e w'=>e=.returned (.int .i64 (k+n))/\w'=w:=by
 have hl:=z0h k n;have HB:Hid (Byt w a (z09 k n)):=h;clear h
 go_enter Tryz.func18,Tryz.ntmps18
 go_wp2
 go_loop [1,5] (fun q i=>∃ j:Nat,j<=n/\i=.int .i64 j/\q=.int .i64 (k+j)) (fun _ i=>n-(intOf i).toNat)
 case atStart=>exact ⟨0,Nat.zero_le _,rfl,by simp⟩
 case round=>
  obtain ⟨j,hj,rfl,rfl⟩:=hrel
  by_cases hlt:j<n
  ·obtain ⟨b,off,rfl,hbl,hc⟩:=HB.out.len_pos j (by rw [hl];exact hlt)
   have hs:=hc j (by rw [hl];exact hlt)
   rw [zhb k n j hlt] at hs;have hq:((k+j) % 256 != (k+j) % 256)=false:=by simp
   clear hc hl;go_wp2;go_round
   case rel=>exact ⟨j+1,by omega,by go_num,by go_num⟩
   case measure=>simp [intOf];omega
  ·have hjn:j=n:=by omega
   subst hjn;go_wp2;go_ret;exact ⟨rfl,rfl⟩
theorem z86 (a:Option Addr) (cap:Nat) (ss:List El) (k:Int) (w:World) (h:Els false w a (mkE false k ss)) (hn:ss.length+zb ss<=1048576) (h0:0<=k) (h1:k<=1) :
  Calls Tryz.prog 31 #[.slice a ss.length cap,.int .i64 k] w fun e w'=>e=.returned (.int .i64 (k+zb ss))/\w'=w:=by
 have HGE:Hid _:=zew false k ss;have HSU:Hid _:=z3v false k ss;have HLB:Hid _:=z55 false k ss;have HSS:Hid (Els false w a (mkE false k ss)):=h;have HMM:Hid (∀ j,j<ss.length->(ss.getD j de).ls.length<=zb ss):=fun j hj=>z04 (zf hj)
 have HFI:Hid ((mkE false k ss).length=ss.length/\mkA false k ss ss.length=k+zb ss):=⟨z1b _ _ _,by rw [z5t];simp [eO]⟩
 clear h;generalize hlen:ss.length=n at *;have HL:Hid (ss.length=n/\True):=⟨hlen,trivial⟩;clear hlen;generalize hT:zb ss=T at *;clear hT
 go_enter Tryz.func31,Tryz.ntmps31
 go_wp2
 go_loop [1,5] (fun q i=>∃ (j:Nat) (y:Int),j<=n/\i=.int .i64 j/\q=.int .i64 y/\y=mkA false k ss j) (fun _ i=>n-(intOf i).toNat)
 case atStart=>exact ⟨0,k,Nat.zero_le _,rfl,rfl,by simp [mkA,zb]⟩
 case round=>
  obtain ⟨j,y,hj,rfl,rfl,hy⟩:=hrel;have hyb:=HLB.out j hj;have HY:Hid (y=mkA false k ss j/\True):=⟨hy,trivial⟩;rw [<-hy] at hyb;clear hy
  by_cases hjn:j<n
  ·obtain ⟨b,off,rfl,hb1,c0,hby,-⟩:=HSS.out.sec j (by rw [HFI.out.1];exact hjn)
   rw [HGE.out j hjn,<-HY.out.1] at c0 hby
   simp only [mk1,z0h] at c0 hby
   rw [show y+((eO false:Nat):Int)=y from by simp [eO]] at hby
   have HBY:Hid (Byt w (ss.getD j de).a (z09 y (ss.getD j de).ls.length)):=hby;have HYN:Hid (mkA false k ss (j+1)=y+(ss.getD j de).ls.length/\True):=⟨by rw [HSU.out j hjn,HY.out.1];simp [eO],trivial⟩
   have hT2:=HMM.out j hjn;clear hby HY;generalize ss.getD j de=s at *;have HHB:=zax s.a s.c s.ls.length y w HBY.out (by omega) (by omega) (by omega)
   generalize s.ls.length=M at *;go_wp2_with fail
   refine HHB.mono ?_;clear HHB;rintro e w2 ⟨rfl,rfl⟩;go_wp2;go_round
   case rel=>exact ⟨j+1,_,by omega,by go_num,rfl,HYN.out.1.symm⟩
   case measure=>simp [intOf];omega
  ·have hjn2:j=n:=by omega
   subst hjn2;have HYF:Hid (y=k+(T:Nat)/\True):=⟨HY.out.1.trans HFI.out.2,trivial⟩;go_wp2;go_ret;exact ⟨by rw [<-HYF.out.1];rfl,rfl⟩
def AlK (f:List Int->Option (List Int)) (d:DkV) (n:Nat) (ls:List (List Int)):Prop:=ls.length=n/\∀ k,k<n->RgK f d k (ls.getD k []) 0
def AlR (f:List Int->Option (List Int)) (d:DkV) (AS:List (Int × List Int)) (r:Bool):Prop:=
 (DkG f d/\((∃ ls,AlK f d d.ms.length ls/\AS=ls.map (fun b=>((0:Int),b))/\r=true)\/((∃ k bs c,k<d.ms.length/\RgK f d k bs c/\c≠0)/\AS=[]/\r=false)))\/(¬DkG f d/\AS=[]/\r=false)
theorem AlK.nil (f:List Int->Option (List Int)) (d:DkV):AlK f d 0 []:=⟨rfl,fun k h=>absurd h (Nat.not_lt_zero k)⟩
theorem AlK.more {f:List Int->Option (List Int)} {d:DkV} {n:Nat} {ls:List (List Int)} {bs:List Int} (h:AlK f d n ls) (hb:RgK f d n bs 0):AlK f d (n+1) (ls++[bs]):=by
 refine ⟨by rw [List.length_append,h.1];rfl,fun k hk=>?_⟩
 by_cases e:k=n
 ·subst e
  rw [show (ls++[bs]).getD k []=bs from by simp [List.getD_eq_getElem?_getD,<-h.1]]
  exact hb
 ·rw [show (ls++[bs]).getD k []=ls.getD k [] from by simp only [List.getD_eq_getElem?_getD];rw [List.getElem?_append_left (by rw [h.1];omega)]]
  exact h.2 k (by omega)
theorem AlK.same {f:List Int->Option (List Int)} {e d:DkV} {n:Nat} {ls:List (List Int)} (hs:DkS e d) (h:AlK f e n ls):AlK f d n ls:=⟨h.1,fun k hk=>(h.2 k hk).same hs⟩
theorem AlK.uniq {f:List Int->Option (List Int)} {d:DkV} {n:Nat} {ls ms:List (List Int)} (h:AlK f d n ls) (k:AlK f d n ms):ls=ms:=by
 refine List.ext_getElem (h.1.trans k.1.symm) (fun i h1 h2=>?_)
 have hi:i<n:=by rw [<-h.1];exact h1
 have:=((h.2 i hi).uniq (k.2 i hi)).1
 simpa [List.getD_eq_getElem?_getD,h1,h2] using this
theorem AlR.same {f:List Int->Option (List Int)} {e d:DkV} {AS:List (Int × List Int)} {r:Bool} (hs:DkS e d) (h:AlR f e AS r):AlR f d AS r:=by
 rcases h with ⟨h1,⟨ls,h2,h3⟩ | ⟨⟨k,bs,c,h2,h3,h4⟩,h5⟩⟩ | ⟨h1,h2⟩
 ·exact .inl ⟨h1.same hs,.inl ⟨ls,by rw [<-hs.ms];exact h2.same hs,h3⟩⟩
 ·exact .inl ⟨h1.same hs,.inr ⟨⟨k,bs,c,by rw [<-hs.ms];exact h2,h3.same hs,h4⟩,h5⟩⟩
 ·exact .inr ⟨fun h=>h1 (h.same hs.symm),h2⟩
theorem AlR.uniq {f:List Int->Option (List Int)} {d:DkV} {AS BS:List (Int × List Int)} {r s:Bool} (h:AlR f d AS r) (h':AlR f d BS s):AS=BS/\r=s:=by
 rcases h with ⟨h1,⟨ls,h2,h3,h4⟩ | ⟨⟨k,bs,c,h2,h3,h4⟩,h5,h6⟩⟩ | ⟨h1,h5,h6⟩ <;> rcases h' with ⟨k1,⟨ms,k2,k3,k4⟩ | ⟨⟨j,cs,e,k2,k3,k4⟩,k5,k6⟩⟩ | ⟨k1,k5,k6⟩
 ·obtain rfl:=h2.uniq k2
  exact ⟨by rw [h3,k3],by rw [h4,k4]⟩
 ·exact absurd ((h2.2 j k2).uniq k3).2.symm k4
 ·exact absurd h1 k1
 ·exact absurd ((k2.2 k h2).uniq h3).2.symm h4
 ·exact ⟨by rw [h5,k5],by rw [h6,k6]⟩
 ·exact absurd h1 k1
 ·exact absurd k1 h1
 ·exact absurd k1 h1
 ·exact ⟨by rw [h5,k5],by rw [h6,k6]⟩
theorem zju {es:List El} {m:Nat} (h:∀ e ∈ es,e.ls.length<=m):zb es<=es.length*m:=by
 induction es with
 | nil=>simp [zb]
 | cons e es ih=>
  have h1:=ih (fun x hx=>h x (List.mem_cons_of_mem _ hx))
  have h2:=h e (List.mem_cons_self ..)
  simp only [zb,List.length_cons,Nat.succ_mul]
  omega
theorem AlR.few {f:List Int->Option (List Int)} {d:DkV} {ms:List El} {r:Bool} (h:AlR f d (ms.map El.ct) r):ms.length+zb ms<=1048576:=by
 rcases h with ⟨h1,⟨ls,h2,h3,-⟩ | ⟨-,h3,-⟩⟩ | ⟨-,h3,-⟩
 ·have hn:d.ms.length<=16:=by
   have h:=h1.geo;unfold gmB at h;have h:=of_decide_eq_true h
   omega
  have hl:ms.length=ls.length:=by have:=congrArg List.length h3;simpa using this
  have h4:zb ms<=ms.length*64:=by
   refine zju (fun e he=>?_)
   have h5:e.ct ∈ ls.map (fun b=>((0:Int),b)):=by rw [<-h3];exact List.mem_map_of_mem he
   obtain ⟨b,hb,h6⟩:=List.mem_map.1 h5;obtain ⟨i,hi,rfl⟩:=List.mem_iff_getElem.1 hb;have h7:=(h2.2 i (by rw [<-h2.1];exact hi)).len
   rw [show ls.getD i []=ls[i] from by simp [List.getD_eq_getElem?_getD,hi]] at h7
   have h8:e.ls=ls[i]:=by have:=congrArg Prod.snd h6;simpa [El.ct] using this.symm
   rw [h8];exact h7
  have h5:=h2.1;have h6:ms.length*64<=16*64:=Nat.mul_le_mul_right _ (by omega)
  omega
 ·have e1:ms=[]:=List.map_eq_nil_iff.1 h3
  subst e1
  simp [zb]
 ·have e1:ms=[]:=List.map_eq_nil_iff.1 h3
  subst e1
  simp [zb]
structure RsO (w:World) (B:Nat) (v:Value) (ms:List El):Prop where
 o:OVr false w B v ms
 dp:Deep w B ms
 rn:∀ e ∈ ms,rE false e
theorem RsO.nil (w:World) (B:Nat):RsO w B (.slice none 0 0) []:=⟨OVr.nil _ _ _,Deep.nil _ _,by simp⟩
def AlA (R:List (Int × List Int)->Bool->Prop) (w:World) (e:Ending) (w':World):Prop:=
 (∃ v ms r,e=.returned (.tuple #[v,.bool r])/\R (ms.map El.ct) r/\RsO w' w.heap.size v ms)/\Below w.heap.size w w'
structure AlO (w W:World) (d:DkV) (v:Value) (ms:List El):Prop where
 bel:Below w.heap.size w W
 bx:Dk10 W w.heap.size d
 rs:RsO W (w.heap.size+1) v ms
section
variable {w W W' W2 W4 : World} {d : DkV} {v v' : Value} {ms : List El}
theorem RsO.below {B:Nat} (h:RsO W B v ms) (hb:Below W.heap.size W W'):RsO W' B v ms:=⟨h.o.below hb,h.dp.below hb,h.rn⟩
theorem RsO.weak {B B':Nat} (h:RsO W B v ms) (hB:B'<=B):RsO W B' v ms:=⟨h.o.weak hB,h.dp.weak hB,h.rn⟩
theorem AlO.step (h:AlO w W d v ms) (hb:Below W.heap.size W W'):AlO w W' d v ms:=
 ⟨h.bel.trans (hb.mono (Nat.le_of_lt h.bx.lt)),h.bx.step hb,h.rs.below hb⟩
theorem zf8 (w:World) (a:Option Addr) (c:Nat) (bs:List Int) (hy:Byt w a bs) (hl:bs.length<=1048576):Els false (w.alloc (Obj.cells #[.slice a bs.length c] 36)) (some ⟨w.heap.size,0,none⟩) [⟨0,a,c,bs⟩]:=by
 refine ⟨?_,fun _=>⟨w.heap.size,0,rfl,by simp,fun i hi=>?_⟩⟩
 ·intro s hs
  simp at hs
  subst hs;exact ⟨⟨by simp,by simp,by unfold maxLen;simp only;omega,by simp⟩,hy.alloc _⟩
 ·obtain rfl:i=0:=by simp at hi;omega
  exact ⟨by simp,by simp [eO,eW]⟩
theorem AlO.more {a:Option Addr} {c:Nat} {bs:List Int} {ob:Obj} (h:AlO w W d v ms) (hb:Below W.heap.size W W2) (hm:Mine W2 W.heap.size W2.heap.size a c bs) (hl:bs.length<=1048576)
  (ho:OVr false W4 (w.heap.size+1) v' (ms++[⟨0,a,c,bs⟩])) (hg:(W2.alloc ob).grownBy W4 v.ownBlock):AlO w W4 d v' (ms++[⟨0,a,c,bs⟩]):=by
 have ha:Below W2.heap.size W2 (W2.alloc ob):=ba;have h3:=(h.step hb).step ha;have hlt:=h3.bx.lt;have hm3:Mine (W2.alloc ob) W.heap.size (W2.alloc ob).heap.size a c bs:=(hm.below ha).mono nl ha.size;refine ⟨h3.bel.grown hg (by omega) (fun k hk=>by have:=(h3.rs.o.blk hk).1;omega),h3.bx.only (Only.ofGrown hg) (fun e=>by have:=(h3.rs.o.blk e).1;omega),⟨ho,?_,?_⟩⟩
 ·exact Deep.grown (h3.rs.dp.snoc (U:=W.heap.size) hm3 (fun x hx k hk=>h.rs.dp.lt x hx k hk) (by have:=h.bx.lt;omega)) h3.rs.o hg
 ·intro e he
  rcases List.mem_append.1 he with he | he
  ·exact h3.rs.rn e he
  ·simp at he
   subst he;exact ⟨by simp,by simp,by unfold maxLen;simp only;omega,by simp⟩
end
theorem zde (f:List Int->Option (List Int)) (hf:zy f) (d:DkV) (w:World) (hb:DkI w d) (hi:ItI w d.oa d.os) (hd:DkF d) (hc:RwC d) (hcc:d.cs.length<=d.cc) :
  Calls Tryz.prog 27 #[.agg #[.slice d.sa d.ss.length d.sc,.slice d.pa d.ps.length d.pc,.int .i64 d.E,.int .i64 d.O,.slice d.ma d.ms.length d.mc,.slice d.va d.vs.length d.vc,.slice d.ca d.cs.length d.cc,.int .i64 d.F,.int .i64 d.G,.slice d.oa d.os.length d.oc]] w (AlA (AlR f d) w):=by
 have HW0:Hid (Bw w (w.alloc (Obj.cells #[.slice d.sa d.ss.length d.sc,.slice d.pa d.ps.length d.pc,.int .i64 d.E,.int .i64 d.O,.slice d.ma d.ms.length d.mc,.slice d.va d.vs.length d.vc,.slice d.ca d.cs.length d.cc,.int .i64 d.F,.int .i64 d.G,.slice d.oa d.os.length d.oc] 49))):=ba;have hx0:=Dk10.new w d 49;have H1:=z96 f hf d _ (hb.below HW0.out nl) (hi.below HW0.out nl) hd hcc;have HB:Hid (DkI w d/\ItI w d.oa d.os/\DkF d/\zy f/\RwC d):=⟨hb,hi,hd,hf,hc⟩
 have HYE:Hid (DkG f d->∀ (v:Value) (ms:List El) (ls:List (List Int)) (W:World),AlK f d d.ms.length ls->ms.map El.ct=ls.map (fun b=>((0:Int),b))->AlO w W d v ms->AlA (AlR f d) w (.returned (.tuple #[v,.bool true])) W):=
  fun h v ms ls W h1 h2 h3=>⟨⟨v,ms,true,rfl,.inl ⟨h,.inl ⟨ls,h1,h2,rfl⟩⟩,h3.rs.weak (by omega)⟩,h3.bel⟩
 have HNA:Hid (DkG f d->∀ (k:Nat) (bs:List Int) (c:Int) (W:World),k<d.ms.length->RgK f d k bs c->c≠0->Bw w W->AlA (AlR f d) w (.returned (.tuple #[.slice none 0 0,.bool false])) W):=
  fun h k bs c W h1 h2 h3 h4=>⟨⟨_,[],false,rfl,.inl ⟨h,.inr ⟨⟨k,bs,c,h1,h2,h3⟩,rfl,rfl⟩⟩,RsO.nil _ _⟩,h4⟩
 have HNO:Hid (¬DkG f d->∀ (W:World),Bw w W->AlA (AlR f d) w (.returned (.tuple #[.slice none 0 0,.bool false])) W):=
  fun h W h4=>⟨⟨_,[],false,rfl,.inr ⟨h,rfl,rfl⟩,RsO.nil _ _⟩,h4⟩
 clear hb hi hd hf hc hcc;generalize AlA (AlR f d) w=RP at *
 go_enter Tryz.func27,Tryz.ntmps27
 go_wp2_with fail
 generalize (w.alloc (Obj.cells #[.slice d.sa d.ss.length d.sc,.slice d.pa d.ps.length d.pc,.int .i64 d.E,.int .i64 d.O,.slice d.ma d.ms.length d.mc,.slice d.va d.vs.length d.vc,.slice d.ca d.cs.length d.cc,.int .i64 d.F,.int .i64 d.G,.slice d.oa d.os.length d.oc] 49))=W0 at *;refine H1.mono ?_;clear H1;rintro e w1 ⟨h1,hb1⟩;have hx1:=hx0.step hb1;have HW1:Hid (Bw w w1):=HW0.out.trans (hb1.mono HW0.out.size)
 clear hb1 hx0 HW0;rcases h1 with ⟨hG,rfl⟩ | ⟨hG,rfl⟩
 rotate_left
 ·have HF:Hid (∀ (W:World),Bw w W->RP (.returned (.tuple #[.slice none 0 0,.bool false])) W):=HNO.out hG
  clear hG HNA HYE HNO;go_wp2;exact HF.out _ HW1.out
 have HG:Hid (DkG f d):=hG;have HYE2:Hid _:=HYE.out hG;have HNA2:Hid _:=HNA.out hG;have hn:d.ms.length<=16:=by
  have h:=hG.geo;unfold gmB at h;have h:=of_decide_eq_true h
  omega
 clear hG HNA HYE HNO;have HA1:Hid (AlO w w1 d (.slice none 0 0) []):=⟨HW1.out,hx1,RsO.nil _ _⟩;obtain ⟨x0,x1,x2,x3,x4,x5,x6,x7,x8,x9,xl⟩:=id hx1;clear hx1 HW1;generalize hnl:d.ms.length=n at *;have HNL:Hid (d.ms.length=n/\True):=⟨hnl,trivial⟩;go_wp2_with fail
 clear x0 x1 x2 x3 x4 x5 x6 x7 x8 x9 xl
 go_loopw [4,5] (fun v i wr=>∃ (k:Nat) (ls:List (List Int)) (ms:List El),k<=n/\i=.int .i64 k/\AlK f d k ls/\ms.map El.ct=ls.map (fun b=>((0:Int),b))/\AlO w wr d v ms) (fun _ i _=>n-(intOf i).toNat)
 case atStart=>exact ⟨0,[],[],Nat.zero_le _,rfl,AlK.nil _ _,rfl,HA1.out⟩
 case round=>
  clear HA1;obtain ⟨k,ls,ms,hk,rfl,hak,hmc,hal⟩:=hrel;have HAK:Hid (AlK f d k ls):=hak;have HMS:Hid (ms.map El.ct=ls.map (fun b=>((0:Int),b))/\ms.length<=16):=⟨hmc,by have h1:=congrArg List.length hmc;simp only [List.length_map] at h1;have h2:=hak.1;omega⟩
  have HAL:Hid (AlO w wr d u4 ms):=hal;obtain ⟨x0,x1,x2,x3,x4,x5,x6,x7,x8,x9,xl⟩:=hal.bx;rw [hnl] at x4;clear hak hmc hal
  by_cases hlt:k<n
  ·have HLT:Hid (k<d.ms.length):=(by rw [HNL.out.1];exact hlt:k<d.ms.length)
   have H2:=zdz f HB.out.2.2.2.1 d k wr (HB.out.1.below HAL.out.bel nl) (HB.out.2.1.below HAL.out.bel nl) HG.out HB.out.2.2.1 HB.out.2.2.2.2 HLT.out;rw [hnl] at H2;go_wp2_with fail
   clear x0 x1 x2 x3 x4 x5 x6 x7 x8 x9 xl;refine H2.mono ?_;clear H2;rintro e w2 ⟨⟨vb,bs,c,rfl,hov,hkk⟩,hb2⟩;obtain ⟨va,vc,rfl,hm2⟩:=hov.mine;clear hov
   by_cases hc:c=0
   ·subst hc
    have HMM:Hid (Bw wr w2/\Mine w2 wr.heap.size w2.heap.size va vc bs/\bs.length<=1048576):=⟨hb2,hm2,by have:=hkk.len;omega⟩
    have HAK2:Hid (AlK f d (k+1) (ls++[bs])):=HAK.out.more hkk;have HT2:Hid (OVr false (w2.alloc (Obj.cells #[.slice va bs.length vc] 36)) (w.heap.size+1) u4 ms/\Els false (w2.alloc (Obj.cells #[.slice va bs.length vc] 36)) (some ⟨w2.heap.size,0,none⟩) [⟨0,va,vc,bs⟩]/\w.heap.size+1<=(w2.alloc (Obj.cells #[.slice va bs.length vc] 36)).heap.size):=
     ⟨((HAL.out.step hb2).step ((Below.refl _ _).alloc nl _)).rs.o,zf8 w2 va vc bs hm2.byt (by have:=hkk.len;omega),by have:=HAL.out.bx.lt;have:=hb2.size;simp;omega⟩
    clear hb2 hm2 hkk;go_wp2_with (at_builtin;(refine z1c false rfl (.tmp 27) (.tmp 29) rfl (w.heap.size+1) u4 ms [⟨0,va,vc,bs⟩] rfl HT2.out.1 ⟨w2.heap.size,0,none⟩ 1 rfl HT2.out.2.1 (by have:=HMS.out.2;simp only [List.length_cons,List.length_nil];omega) HT2.out.2.2 ?_;intro v9 w9 hov9 hg9;have HA9:Hid (AlO w w9 d v9 (ms++[⟨0,va,vc,bs⟩])):=HAL.out.more HMM.out.1 HMM.out.2.1 HMM.out.2.2 hov9 hg9;clear hov9 hg9))
    go_roundw
    case rel=>exact ⟨k+1,ls++[bs],ms++[⟨0,va,vc,bs⟩],by omega,by go_num,HAK2.out,by rw [List.map_append,List.map_append,HMS.out.1];rfl,HA9.out⟩
    case measure=>simp [intOf];omega
   ·have HF:Hid (RP (.returned (.tuple #[.slice none 0 0,.bool false])) w2):=HNA2.out k bs c w2 (by have:=HLT.out;rw [HNL.out.1] at this;exact this) hkk hc (HAL.out.bel.trans (hb2.mono HAL.out.bel.size))
    have hc':(c != 0)=true:=by rw [bne_iff_ne];exact hc
    clear hb2 hm2 hkk HAL HAK;go_wp2;exact HF.out
  ·have hkn:k=n:=by omega
   have HF:Hid (RP (.returned (.tuple #[u4,.bool true])) wr):=HYE2.out u4 ms ls wr (by have:=HAK.out;rw [hkn] at this;exact this) HMS.out.1 HAL.out
   subst hkn;clear HAL;go_wp2;exact HF.out
theorem ze2 (f:List Int->Option (List Int)) (hf:zy f) (d:DkV) (w:World) (hb:DkI w d) (hi:ItI w d.oa d.os) (hd:DkF d) (pC:Addr) (hS:SentR w) (cC:w.cell? ⟨0,0,none⟩=some (.iface 326 (.pointer (some pC)))) :
  Calls Tryz.prog 28 #[.agg #[.slice d.sa d.ss.length d.sc,.slice d.pa d.ps.length d.pc,.int .i64 d.E,.int .i64 d.O,.slice d.ma d.ms.length d.mc,.slice d.va d.vs.length d.vc,.slice d.ca d.cs.length d.cc,.int .i64 d.F,.int .i64 d.G,.slice d.oa d.os.length d.oc]] w (AlA (AlR f d) w):=by
 have HW0:Hid (Bw w (w.alloc (Obj.cells #[.slice d.sa d.ss.length d.sc,.slice d.pa d.ps.length d.pc,.int .i64 d.E,.int .i64 d.O,.slice d.ma d.ms.length d.mc,.slice d.va d.vs.length d.vc,.slice d.ca d.cs.length d.cc,.int .i64 d.F,.int .i64 d.G,.slice d.oa d.os.length d.oc] 49))):=ba;have hx0:=Dk10.new w d 49;have H1:=z8z f hf d _ (hb.below HW0.out nl) (hi.below HW0.out nl) hd (hS.b.below HW0.out);have HB:Hid (DkI w d/\ItI w d.oa d.os/\DkF d/\zy f/\SentR w/\w.cell? ⟨0,0,none⟩=some (.iface 326 (.pointer (some pC)))):=⟨hb,hi,hd,hf,hS,cC⟩
 have HYE:Hid (DkG f d->∀ (v:Value) (ms:List El) (ls:List (List Int)) (W:World),AlK f d d.ms.length ls->ms.map El.ct=ls.map (fun b=>((0:Int),b))->AlO w W d v ms->AlA (AlR f d) w (.returned (.tuple #[v,.bool true])) W):=
  fun h v ms ls W h1 h2 h3=>⟨⟨v,ms,true,rfl,.inl ⟨h,.inl ⟨ls,h1,h2,rfl⟩⟩,h3.rs.weak (by omega)⟩,h3.bel⟩
 have HNA:Hid (DkG f d->∀ (k:Nat) (bs:List Int) (c:Int) (W:World),k<d.ms.length->RgK f d k bs c->c≠0->Bw w W->AlA (AlR f d) w (.returned (.tuple #[.slice none 0 0,.bool false])) W):=
  fun h k bs c W h1 h2 h3 h4=>⟨⟨_,[],false,rfl,.inl ⟨h,.inr ⟨⟨k,bs,c,h1,h2,h3⟩,rfl,rfl⟩⟩,RsO.nil _ _⟩,h4⟩
 have HNO:Hid (¬DkG f d->∀ (W:World),Bw w W->AlA (AlR f d) w (.returned (.tuple #[.slice none 0 0,.bool false])) W):=
  fun h W h4=>⟨⟨_,[],false,rfl,.inr ⟨h,rfl,rfl⟩,RsO.nil _ _⟩,h4⟩
 clear hb hi hd hf hS cC;generalize AlA (AlR f d) w=RP at *
 go_enter Tryz.func28,Tryz.ntmps28
 go_wp2_with fail
 generalize (w.alloc (Obj.cells #[.slice d.sa d.ss.length d.sc,.slice d.pa d.ps.length d.pc,.int .i64 d.E,.int .i64 d.O,.slice d.ma d.ms.length d.mc,.slice d.va d.vs.length d.vc,.slice d.ca d.cs.length d.cc,.int .i64 d.F,.int .i64 d.G,.slice d.oa d.os.length d.oc] 49))=W0 at *;refine H1.mono ?_;clear H1;rintro e w1 ⟨h1,hb1⟩;have hx1:=hx0.step hb1;have HW1:Hid (Bw w w1):=HW0.out.trans (hb1.mono HW0.out.size)
 clear hb1 hx0 HW0;rcases h1 with ⟨hG,rfl⟩ | ⟨hG,rfl⟩
 rotate_left
 ·have HF:Hid (∀ (W:World),Bw w W->RP (.returned (.tuple #[.slice none 0 0,.bool false])) W):=HNO.out hG
  clear hG HNA HYE HNO;go_wp2;exact HF.out _ HW1.out
 have HG:Hid (DkG f d):=hG;have HYE2:Hid _:=HYE.out hG;have HNA2:Hid _:=HNA.out hG;have hn:d.ms.length<=16:=by
  have h:=hG.geo;unfold gmB at h;have h:=of_decide_eq_true h
  omega
 clear hG HNA HYE HNO;have HA1:Hid (AlO w w1 d (.slice none 0 0) []):=⟨HW1.out,hx1,RsO.nil _ _⟩;obtain ⟨x0,x1,x2,x3,x4,x5,x6,x7,x8,x9,xl⟩:=id hx1;clear hx1 HW1;generalize hnl:d.ms.length=n at *;have HNL:Hid (d.ms.length=n/\True):=⟨hnl,trivial⟩;go_wp2_with fail
 clear x0 x1 x2 x3 x4 x5 x6 x7 x8 x9 xl
 go_loopw [4,15] (fun v i wr=>∃ (k:Nat) (ls:List (List Int)) (ms:List El),k<=n/\i=.int .i64 k/\AlK f d k ls/\ms.map El.ct=ls.map (fun b=>((0:Int),b))/\AlO w wr d v ms) (fun _ i _=>n-(intOf i).toNat)
 case atStart=>exact ⟨0,[],[],Nat.zero_le _,rfl,AlK.nil _ _,rfl,HA1.out⟩
 case round=>
  clear HA1;obtain ⟨k,ls,ms,hk,rfl,hak,hmc,hal⟩:=hrel;have HAK:Hid (AlK f d k ls):=hak;have HMS:Hid (ms.map El.ct=ls.map (fun b=>((0:Int),b))/\ms.length<=16):=⟨hmc,by have h1:=congrArg List.length hmc;simp only [List.length_map] at h1;have h2:=hak.1;omega⟩
  have HAL:Hid (AlO w wr d u4 ms):=hal;obtain ⟨x0,x1,x2,x3,x4,x5,x6,x7,x8,x9,xl⟩:=hal.bx;rw [hnl] at x4;clear hak hmc hal
  by_cases hlt:k<n
  ·have HLT:Hid (k<d.ms.length):=(by rw [HNL.out.1];exact hlt:k<d.ms.length)
   have H2:=zav f HB.out.2.2.2.1 d k wr (HB.out.1.below HAL.out.bel nl) (HB.out.2.1.below HAL.out.bel nl) HG.out HB.out.2.2.1 (HB.out.2.2.2.2.1.below HAL.out.bel) HLT.out;rw [hnl] at H2;go_wp2_with fail
   clear x0 x1 x2 x3 x4 x5 x6 x7 x8 x9 xl;refine H2.mono ?_;clear H2;rintro e w3 ⟨⟨o,T,u,hct,rfl,hcn⟩,hb3⟩;have HW3:Hid (Bw w w3/\Bw wr w3):=⟨HAL.out.bel.trans (hb3.mono HAL.out.bel.size),hb3⟩;have H4:=zch f HB.out.2.2.2.1 pC o T u w3 hcn (fun ls e=>by subst e;exact hct.blob HG.out) (hct.short HG.out) (keep HW3.out.1 (World.block_lt_of_cell? _ _ HB.out.2.2.2.2.2) HB.out.2.2.2.2.2) (HB.out.2.2.2.2.1.b.below HW3.out.1)
   have HCT:Hid (CtR f d k o):=hct;clear hb3 hct hcn;go_wp2_with fail
   refine H4.mono ?_;clear H4;rintro e w2 ⟨h4,hb4⟩;have hb2:Bw wr w2:=HW3.out.2.trans (hb4.mono HW3.out.2.size);rcases h4 with ⟨ho,rfl⟩ | ⟨vb,bs,ho,rfl,hov⟩
   ·have HF:Hid (RP (.returned (.tuple #[.slice none 0 0,.bool false])) w2):=HNA2.out k [] 4 w2 (by have:=HLT.out;rw [HNL.out.1] at this;exact this) ⟨o,HCT.out,.inl ⟨ho,rfl,rfl⟩⟩ (by decide) (HAL.out.bel.trans (hb2.mono HAL.out.bel.size))
    clear hb2 hb4 ho HAL HAK HCT HW3;go_wp2;exact HF.out
   ·have hkk:RgK f d k bs 0:=⟨o,HCT.out,ho.elim (fun h=>.inr (.inl ⟨h.1,h.2,rfl⟩)) (fun ⟨ls,h1,h2,h3,h4⟩=>.inr (.inr ⟨ls,h1,h2,h3,h4,rfl⟩))⟩
    obtain ⟨va,vc,rfl,hm2'⟩:=hov.mine;have hm2:=hm2'.mono HW3.out.2.size nl;clear hov ho hb4 hm2' HCT HW3;have HMM:Hid (Bw wr w2/\Mine w2 wr.heap.size w2.heap.size va vc bs/\bs.length<=1048576):=⟨hb2,hm2,by have:=hkk.len;omega⟩
    have HAK2:Hid (AlK f d (k+1) (ls++[bs])):=HAK.out.more hkk;have HT2:Hid (OVr false (w2.alloc (Obj.cells #[.slice va bs.length vc] 36)) (w.heap.size+1) u4 ms/\Els false (w2.alloc (Obj.cells #[.slice va bs.length vc] 36)) (some ⟨w2.heap.size,0,none⟩) [⟨0,va,vc,bs⟩]/\w.heap.size+1<=(w2.alloc (Obj.cells #[.slice va bs.length vc] 36)).heap.size):=
     ⟨((HAL.out.step hb2).step ((Below.refl _ _).alloc nl _)).rs.o,zf8 w2 va vc bs hm2.byt (by have:=hkk.len;omega),by have:=HAL.out.bx.lt;have:=hb2.size;simp;omega⟩
    clear hb2 hm2 hkk;go_wp2_with (at_builtin;(refine z1c false rfl (.tmp 27) (.tmp 29) rfl (w.heap.size+1) u4 ms [⟨0,va,vc,bs⟩] rfl HT2.out.1 ⟨w2.heap.size,0,none⟩ 1 rfl HT2.out.2.1 (by have:=HMS.out.2;simp only [List.length_cons,List.length_nil];omega) HT2.out.2.2 ?_;intro v9 w9 hov9 hg9;have HA9:Hid (AlO w w9 d v9 (ms++[⟨0,va,vc,bs⟩])):=HAL.out.more HMM.out.1 HMM.out.2.1 HMM.out.2.2 hov9 hg9;clear hov9 hg9))
    go_roundw
    case rel=>exact ⟨k+1,ls++[bs],ms++[⟨0,va,vc,bs⟩],by omega,by go_num,HAK2.out,by rw [List.map_append,List.map_append,HMS.out.1];rfl,HA9.out⟩
    case measure=>simp [intOf];omega
  ·have hkn:k=n:=by omega
   have HF:Hid (RP (.returned (.tuple #[u4,.bool true])) wr):=HYE2.out u4 ms ls wr (by have:=HAK.out;rw [hkn] at this;exact this) HMS.out.1 HAL.out
   subst hkn;clear HAL;go_wp2;exact HF.out
end Go.Proofs.YtaibkchbkedjnaaGreatDoor
