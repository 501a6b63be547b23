import Derived.Test.YtkomjdjfknpinaaGreatDoorOpen1
set_option maxRecDepth 20000
set_option maxHeartbeats 16000000
namespace Go.Proofs.YtkomjdjfknpinaaGreatDoor
open Go.RowKit
set_option linter.unusedVariables false
def z0a (k:Int):Nat->List Int
 | 0=>[]
 | n+1=>z0a k n++[(k+n) % 256]
theorem z0r (k:Int) (n:Nat):(z0a k n).length=n:=by
 induction n with
 | zero=>rfl
 | succ n ih=>simp [z0a,ih]
theorem zi1 (k:Int) (n i:Nat) (h:i<n):(z0a k n).getD i 0=(k+i) % 256:=by
 induction n with
 | zero=>omega
 | succ n ih=>
  simp only [z0a,List.getD_eq_getElem?_getD,List.getElem?_append,z0r]
  by_cases hi:i<n
  ·rw [if_pos hi,<-List.getD_eq_getElem?_getD];exact ih hi
  ·have:i=n:=by omega
   subst this
   simp
theorem zhn (k:Int) (zs:List Int) (j:Nat) (h:j<zs.length):(z0a k j++zs.drop j).set j ((k+j) % 256)=z0a k (j+1)++zs.drop (j+1):=by
 rw [List.set_append_right _ _ (by rw [z0r];exact Nat.le_refl _),z0r,Nat.sub_self,List.drop_eq_getElem_cons h,List.set_cons_zero]
 simp [z0a]
theorem zbv (B g cap:Nat) (zs:List Int) (k:Int) (w:World) (h:Own w B g cap zs) (hn:zs.length<=2097152) (h0:0<=k) (h1:k<=2097152) :
  Calls Tryz.prog 11 #[.slice (some ⟨g,0,none⟩) zs.length cap,.int .i64 k] w fun e w'=>e=.returned (.int .i64 (k+zs.length))/\Own w' B g cap (z0a k zs.length)/\Only (·=g) w w':=by
 generalize hlen:zs.length=n at *;have HL:Hid (zs.length=n):=hlen;clear hlen;have HO:Hid (Own w B g cap zs):=h;clear h
 go_enter Tryz.func11,Tryz.ntmps11
 go_wp2
 go_loopw [1,5] (fun q i wr=>∃ j:Nat,j<=n/\i=.int .i64 j/\q=.int .i64 (k+j)/\Own wr B g cap (z0a k j++zs.drop j)/\Only (·=g) w wr) (fun _ i _=>n-(intOf i).toNat)
 case atStart=>exact ⟨0,Nat.zero_le _,rfl,by simp,by simpa [z0a] using HO.out,Only.refl _ _⟩
 case round=>
  obtain ⟨j,hj,rfl,rfl,hown,honly⟩:=hrel
  by_cases hlt:j<n
  ·have hl:(z0a k j++zs.drop j).length=n:=by rw [List.length_append,z0r,List.length_drop,HL.out];omega
   have hdst:=hown.cell j (by omega)
   have hfz:=hown.frozen j;have R:=hown.store j ((k+j) % 256) (by omega)
   rw [zhn k zs j (by rw [HL.out];exact hlt)] at R
   have HR:Hid (Own (wr.setCell ⟨g,j,none⟩ (.int .u8 ((k+j) % 256))) B g cap (z0a k (j+1)++zs.drop (j+1))):=R;have HB:Hid (Only (·=g) w (wr.setCell ⟨g,j,none⟩ (.int .u8 ((k+j) % 256)))):=honly.setCell (.inl rfl) _;generalize (z0a k j++zs.drop j).getD j 0=old at *;clear R hown honly hl;go_wp2;go_roundw
   case rel=>exact ⟨j+1,by omega,by go_num,by go_num,HR.out,HB.out⟩
   case measure=>simp [intOf];omega
  ·have hjn:j=n:=by omega
   subst hjn;have hown':=hown;rw [List.drop_of_length_le (by rw [HL.out];exact Nat.le_refl _),List.append_nil] at hown'
   have HF:Hid (Own wr B g cap (z0a k j)):=hown';clear hown hown';go_wp2;go_ret;exact ⟨rfl,HF.out,honly⟩
theorem z1k (a:Option Addr) (B U cap:Nat) (zs:List Int) (k:Int) (w:World) (h:Mine w B U a cap zs) (hn:zs.length<=2097152) (h0:0<=k) (h1:k<=2097152) :
  Calls Tryz.prog 11 #[.slice a zs.length cap,.int .i64 k] w fun e w'=>e=.returned (.int .i64 (k+zs.length))/\Mine w' B U a cap (z0a k zs.length)/\Only (zg a) w w':=by
 rcases h with ⟨rfl,rfl,rfl⟩ | ⟨g,rfl,g1,g2,h⟩
 ·go_enter Tryz.func11,Tryz.ntmps11
  go_wp2
  refine wp_loop_rounds 1 ?_;rw [rounds_succ];go_wp2;go_ret;exact ⟨by simp,.inl ⟨rfl,rfl,rfl⟩,Only.refl _ _⟩
 ·refine (zbv B g cap zs k w h hn h0 h1).mono ?_
  rintro e w' ⟨rfl,ho,hy⟩;exact ⟨rfl,.inr ⟨g,rfl,g1,g2,ho⟩,hy.mono (fun k _ hk=>⟨_,rfl,hk.symm⟩)⟩
theorem z3b (ss:List El) (k i:Nat) (s:El) (hk:k<ss.length):(ss.set k s).getD i de=if i=k then s else ss.getD i de:=by
 by_cases h:i=k
 ·subst h
  rw [if_pos rfl,List.getD_eq_getElem?_getD,List.getElem?_set_self hk];rfl
 ·rw [if_neg h]
  simp only [List.getD_eq_getElem?_getD,List.getElem?_set_ne (Ne.symm h)]
theorem z7k (ss:List El) (k:Nat) (s:El) (h:s.a=(ss.getD k de).a) (hk:k<ss.length):(ss.set k s).map El.a=ss.map El.a:=by
 apply List.ext_getElem?
 intro i
 rw [List.getElem?_map,List.getElem?_map,List.getElem?_set]
 by_cases e:k=i
 ·subst e
  rw [if_pos rfl,if_pos hk,List.getElem?_eq_getElem hk]
  simp only [Option.map_some,h,List.getD_eq_getElem?_getD,List.getElem?_eq_getElem hk,Option.getD_some]
 ·rw [if_neg e]
theorem zas (p:Bool) (ss:List El) (s:El):∀ k,k<ss.length->s.cells p=(ss.getD k de).cells p->(ss.set k s).flatMap (El.cells p)=ss.flatMap (El.cells p):=by
 induction ss with
 | nil=>intro k hk;simp at hk
 | cons x ss ih=>
  intro k hk hs
  cases k with
  | zero=>
   have hs':s.cells p=x.cells p:=hs;rw [List.set_cons_zero,List.flatMap_cons,List.flatMap_cons,hs']
  | succ k=>rw [List.set_cons_succ,List.flatMap_cons,List.flatMap_cons,ih k (by simpa using hk) hs]
section
variable {w w' : World} {B : Nat} {es : List El}
theorem zle {es:List El} (h:(es.map El.a).Pairwise (fun x y=>∀ k,zg x k->¬zg y k)) {i j:Nat} (hi:i<es.length) (hj:j<es.length) (hij:i≠j):∀ k,zg (es.getD i de).a k->¬zg (es.getD j de).a k:=by
 intro k h1 h2
 rw [List.pairwise_iff_getElem] at h;have gi:(es.getD i de)=es[i]:=by rw [List.getD_eq_getElem?_getD,List.getElem?_eq_getElem hi];rfl
 have gj:(es.getD j de)=es[j]:=by rw [List.getD_eq_getElem?_getD,List.getElem?_eq_getElem hj];rfl
 rw [gi] at h1;rw [gj] at h2;rcases Nat.lt_or_gt_of_ne hij with h3 | h3
 ·have:=h i j (by simpa using hi) (by simpa using hj) h3 k
  simp only [List.getElem_map] at this
  exact this h1 h2
 ·have:=h j i (by simpa using hj) (by simpa using hi) h3 k
  simp only [List.getElem_map] at this
  exact this h2 h1
theorem Deep.letters (h:Deep w B es) (k:Nat) (hk:k<es.length) (s:El) (ha:s.a=(es.getD k de).a) (ho:Only (zg (es.getD k de).a) w w') (hm:Mine w' B w.heap.size s.a s.c s.ls):Deep w' B (es.set k s):=by
 refine ⟨?_,?_⟩
 ·intro t ht
  obtain ⟨i,hi,rfl⟩:=z2x ht;rw [List.length_set] at hi;rw [z3b es k i _ hk]
  by_cases hik:i=k
  ·rw [if_pos hik]
   exact hm.mono nl ho.size
  ·rw [if_neg hik]
   exact ((h.mine _ (zf hi)).stay ho (fun b hb=>zle h.apart hi hk hik b hb)).mono nl ho.size
 ·rw [z7k es k s ha hk]
  exact h.apart
theorem Deep.parts {ss ps:List El} (h:Deep w B (ss++ps)):Deep w B ss/\Deep w B ps/\∀ x ∈ ss.map El.a,∀ y ∈ ps.map El.a,∀ k,zg x k->¬zg y k:=by
 have h1:=h.apart;rw [List.map_append,List.pairwise_append] at h1;exact ⟨⟨fun e he=>h.mine e (List.mem_append_left _ he),h1.1⟩,⟨fun e he=>h.mine e (List.mem_append_right _ he),h1.2.1⟩,h1.2.2⟩
theorem Deep.join {ss ps:List El} (h1:Deep w B ss) (h2:Deep w B ps) (h3:∀ x ∈ ss.map El.a,∀ y ∈ ps.map El.a,∀ k,zg x k->¬zg y k):Deep w B (ss++ps):=by
 refine ⟨fun e he=>(List.mem_append.1 he).elim (h1.mine e) (h2.mine e),?_⟩
 rw [List.map_append,List.pairwise_append];exact ⟨h1.apart,h2.apart,h3⟩
end
def mkE (p:Bool):Int->List El->List El
 | _,[]=>[]
 | k,s :: ss=>{ s with n:=cond p k s.n,ls:=z0a (k+eO p) s.ls.length } :: mkE p (k+eO p+s.ls.length) ss
theorem z1s (p:Bool) (k:Int) (ss:List El):(mkE p k ss).length=ss.length:=by
 induction ss generalizing k with
 | nil=>rfl
 | cons s ss ih=>simp [mkE,ih]
theorem zgz (p:Bool) (k:Int) (ss:List El):(mkE p k ss).map El.a=ss.map El.a:=by
 induction ss generalizing k with
 | nil=>rfl
 | cons s ss ih=>simp [mkE,ih]
theorem zfv (p:Bool) (k:Int) (a b:List El):mkE p k (a++b)=mkE p k a++mkE p (k+zb a+a.length*eO p) b:=by
 induction a generalizing k with
 | nil=>simp [mkE,zb]
 | cons s a ih=>
  simp only [List.cons_append,mkE,ih,zb,List.length_cons]
  congr 3
  cases p <;> simp [eO] <;> omega
def mk1 (p:Bool) (k:Int) (s:El):El:={ s with n:=cond p k s.n,ls:=z0a (k+eO p) s.ls.length }
def mkA (p:Bool) (k:Int) (ss:List El) (j:Nat):Int:=k+zb (ss.take j)+j*eO p
theorem z48 (p:Bool) (k:Int) (ss:List El) (j:Nat) (h:j<ss.length):(mkE p k (ss.take j)++ss.drop j).set j (mk1 p (mkA p k ss j) (ss.getD j de))=mkE p k (ss.take (j+1))++ss.drop (j+1):=by
 have hl:(mkE p k (ss.take j)).length=j:=by rw [z1s,List.length_take];omega
 rw [List.set_append_right _ _ (by omega),hl,Nat.sub_self,List.drop_eq_getElem_cons h,List.set_cons_zero,List.take_succ_eq_append_getElem h,zfv,List.append_assoc]
 congr 1
 have e:ss.getD j de=ss[j]:=by rw [List.getD_eq_getElem?_getD,List.getElem?_eq_getElem h];rfl
 rw [e,show (ss.take j).length=j from by rw [List.length_take];omega]
 rfl
theorem z7w (p:Bool) (k:Int) (ss:List El) (j:Nat) (h:j<ss.length):(mkE p k (ss.take j)++ss.drop j).getD j de=ss.getD j de:=by
 have hl:(mkE p k (ss.take j)).length=j:=by rw [z1s,List.length_take];omega
 rw [List.getD_eq_getElem?_getD,List.getElem?_append_right (by omega),hl,Nat.sub_self,List.drop_eq_getElem_cons h,List.getElem?_cons_zero,List.getD_eq_getElem?_getD,List.getElem?_eq_getElem h]
theorem zn0 (p:Bool) (k:Int) (ss:List El) (j:Nat) (h:j<ss.length):(mkE p k ss).getD j de=mk1 p (mkA p k ss j) (ss.getD j de):=by
 have e:mkE p k ss=mkE p k (ss.take (j+1))++mkE p (k+zb (ss.take (j+1))+(ss.take (j+1)).length*eO p) (ss.drop (j+1)):=by rw [<-zfv,List.take_append_drop]
 have hl:(mkE p k (ss.take (j+1))).length=j+1:=by rw [z1s,List.length_take];omega
 rw [e,List.getD_eq_getElem?_getD,List.getElem?_append_left (by omega),<-List.getD_eq_getElem?_getD]
 have h2:=z48 p k ss j h;have h3:((mkE p k (ss.take (j+1))++ss.drop (j+1))).getD j de=(mkE p k (ss.take (j+1))).getD j de:=by
  rw [List.getD_eq_getElem?_getD,List.getElem?_append_left (by omega),<-List.getD_eq_getElem?_getD]
 rw [<-h3,<-h2,z3b _ j j _ (by rw [List.length_append,z1s,List.length_take,List.length_drop];omega),if_pos rfl]
theorem z74 (p:Bool) (k:Int) (ss:List El) (j:Nat) (h:j<ss.length):mkA p k ss (j+1)=mkA p k ss j+eO p+(ss.getD j de).ls.length:=by
 unfold mkA;rw [z0e ss j h]
 cases p <;> simp [eO] <;> omega
theorem za1 (p:Bool) (k:Int) (ss:List El):mkA p k ss ss.length=k+zb ss+ss.length*eO p:=by unfold mkA;rw [List.take_length]
theorem z8p (p:Bool) (k:Int) (ss:List El) (j:Nat) (h:j<=ss.length):k<=mkA p k ss j/\mkA p k ss j<=k+zb ss+ss.length:=by
 unfold mkA;have:=z1l ss j
 cases p <;> simp [eO] <;> omega
theorem zfj (p:Bool) (k:Int) (ss:List El) (h:∀ e ∈ ss,rE p e) (h0:0<=k) (h1:k+zb ss+ss.length<=9223372036854775807):∀ e ∈ mkE p k ss,rE p e:=by
 intro e he
 obtain ⟨j,hj,rfl⟩:=z2x he;rw [z1s] at hj;rw [zn0 p k ss j hj];have hr:=h _ (zf hj);have hA:=z8p p k ss j (by omega)
 refine ⟨?_,?_,?_,?_⟩
 ·cases p
  ·exact hr.lo
  ·simp only [mk1,cond_true];omega
 ·cases p
  ·exact hr.hi
  ·simp only [mk1,cond_true];omega
 ·simp only [mk1,z0r];exact hr.len
 ·intro hp;subst hp;exact hr.zero rfl
section
variable {p : Bool} {w w' : World} {B : Nat} {v : Value} {es : List El}
theorem OVr.letters (h:OVr p w B v es) (k:Nat) (hk:k<es.length) (s:El) (hs:s.cells p=(es.getD k de).cells p) (hm:Mine w B w.heap.size (es.getD k de).a (es.getD k de).c (es.getD k de).ls) (ho:Only (zg (es.getD k de).a) w w'):OVr p w' B v (es.set k s):=by
 have h2:=h.stay ho (fun b hb=>h.other hm hb)
 exact ⟨by rw [List.length_set,zas p es s k hk hs];exact h2.own⟩
end
theorem z91 (a:Option Addr) (cap B:Nat) (ss:List El) (k:Int) (w:World) (h:OVr false w B (.slice a ss.length cap) ss) (hd:Deep w B ss) (hn:ss.length+zb ss<=1048576) (h0:0<=k) (h1:k<=1) :
  Calls Tryz.prog 68 #[.slice a ss.length cap,.int .i64 k] w fun e w'=>e=.returned (.int .i64 (k+zb ss))/\(OVr false w' B (.slice a ss.length cap) (mkE false k ss)/\Deep w' B (mkE false k ss))/\Only (fun b=>∃ s ∈ ss,zg s.a b) w w':=by
 have HST:Hid _:=z48 false k ss;have HGE:Hid _:=z7w false k ss;have HSU:Hid _:=z74 false k ss;have HLB:Hid _:=z8p false k ss;have HLE:Hid (∀ j,j<=ss.length->(mkE false k (ss.take j)++ss.drop j).length=ss.length):=fun j hj=>by rw [List.length_append,z1s,List.length_take,List.length_drop];omega
 have HO:Hid (OVr false w B (.slice a ss.length cap) ss/\Deep w B ss):=⟨h,hd⟩;have HMM:Hid (∀ j,j<ss.length->ss.getD j de ∈ ss/\(ss.getD j de).ls.length<=zb ss):=fun j hj=>⟨zf hj,z0c (zf hj)⟩
 clear h hd;have HFI:Hid (mkE false k (ss.take ss.length)++ss.drop ss.length=mkE false k ss/\mkA false k ss ss.length=k+zb ss):=⟨by rw [List.take_length];simp,by rw [za1];simp [eO]⟩
 generalize hlen:ss.length=n at *;have HL:Hid (ss.length=n/\True):=⟨hlen,trivial⟩;clear hlen;generalize hT:zb ss=T at *;clear hT
 go_enter Tryz.func68,Tryz.ntmps68
 go_wp2
 go_loopw [1,5] (fun q i wr=>∃ (j:Nat) (y:Int),j<=n/\i=.int .i64 j/\q=.int .i64 y/\y=mkA false k ss j/\OVr false wr B (.slice a n cap) (mkE false k (ss.take j)++ss.drop j)/\Deep wr B (mkE false k (ss.take j)++ss.drop j)/\Only (fun b=>∃ s ∈ ss,zg s.a b) w wr) (fun _ i _=>n-(intOf i).toNat)
 case atStart=>exact ⟨0,k,Nat.zero_le _,rfl,rfl,by simp [mkA,zb],by simpa [mkE] using HO.out.1,by simpa [mkE] using HO.out.2,Only.refl _ _⟩
 case round=>
  clear HO;obtain ⟨j,y,hj,rfl,rfl,hy,hown,hdeep,honly⟩:=hrel;have hyb:=HLB.out j hj;have HY:Hid (y=mkA false k ss j/\True):=⟨hy,trivial⟩;rw [<-hy] at hyb;have HOW:Hid (OVr false wr B (.slice a n cap) (mkE false k (ss.take j)++ss.drop j)/\Deep wr B (mkE false k (ss.take j)++ss.drop j)):=⟨hown,hdeep⟩;have HON:Hid (Only (fun b=>∃ s ∈ ss,zg s.a b) w wr):=honly
  clear hy
  by_cases hjn:j<n
  ·obtain ⟨g,cap',e',_,hg2,_,hli⟩:=hown.cell j (by rw [HLE.out j hj];exact hjn)
   have hl1:=(hli j (by rw [HLE.out j hj];exact hjn)).c1
   have hmi:=hdeep.mine _ (zf (k:=j) (by rw [HLE.out j hj];exact hjn))
   rw [HGE.out j hjn] at hl1 hmi
   simp only [eW,eO,cond_false,Nat.mul_one,Nat.add_zero] at hl1
   obtain ⟨rfl,-,rfl⟩:a=some ⟨g,0,none⟩/\_/\cap=cap':=by simpa using e'
   have hst:=HST.out j hjn;rw [<-HY.out.1] at hst;have HSTJ:Hid (_/\True):=⟨hst,trivial⟩;obtain ⟨HIN,hT2⟩:=HMM.out j hjn;have HGJ:Hid (_/\True):=⟨HGE.out j hjn,trivial⟩;have HYN:Hid (mkA false k ss (j+1)=y+(ss.getD j de).ls.length/\True):=⟨by rw [HSU.out j hjn,HY.out.1];simp [eO],trivial⟩
   have HMI:Hid (Mine wr B wr.heap.size (ss.getD j de).a (ss.getD j de).c (ss.getD j de).ls):=hmi;have HMK:=z1k (ss.getD j de).a B wr.heap.size (ss.getD j de).c (ss.getD j de).ls y wr hmi (by omega) (by omega) (by omega)
   have HIN':Hid (ss.getD j de ∈ ss):=HIN;clear hst hown hdeep honly hmi hli e' HIN HY;generalize hs:ss.getD j de=s at *;clear hs;go_wp2_with fail
   refine HMK.mono ?_;clear HMK;rintro e w2 ⟨rfl,hm2,ho2⟩;have hlk:j<(mkE false k (ss.take j)++ss.drop j).length:=by rw [HLE.out j hj];exact hjn
   have hc2:(mk1 false y s).cells false=((mkE false k (ss.take j)++ss.drop j).getD j de).cells false:=by rw [HGJ.out.1];simp [mk1,El.cells,z0r]
   have hR2:=HOW.out.1.letters j hlk (mk1 false y s) hc2 (by rw [HGJ.out.1];exact HMI.out) (w':=w2) (by rw [HGJ.out.1];exact ho2)
   have hD2:=HOW.out.2.letters j hlk (mk1 false y s) (by rw [HGJ.out.1];rfl) (w':=w2) (by rw [HGJ.out.1];exact ho2) (by simpa [mk1,eO] using hm2)
   rw [HSTJ.out.1] at hR2 hD2;have HN2:Hid _:=And.intro hR2 hD2;have HO2:Hid (Only (fun b=>∃ s ∈ ss,zg s.a b) w w2):=HON.out.trans (ho2.mono (fun b _ hb=>⟨s,HIN'.out,hb⟩))
   clear hR2 hD2 hc2 hlk ho2 hm2 HOW HON HMI HGJ;go_wp2;go_roundw
   case rel=>exact ⟨j+1,_,by omega,by go_num,rfl,HYN.out.1.symm,HN2.out.1,HN2.out.2,HO2.out⟩
   case measure=>simp [intOf];omega
  ·have hjn2:j=n:=by omega
   subst hjn2;have HFO:Hid (OVr false wr B (.slice a j cap) (mkE false k ss)/\Deep wr B (mkE false k ss)):=by rw [<-HFI.out.1];exact HOW.out
   have HYF:Hid (y=k+(T:Nat)/\True):=⟨HY.out.1.trans HFI.out.2,trivial⟩;clear HOW hown hdeep;go_wp2;go_ret;exact ⟨by rw [<-HYF.out.1];rfl,HFO.out,HON.out⟩
theorem zbh (a:Option Addr) (cap B:Nat) (ss:List El) (k:Int) (w:World) (h:OVr true w B (.slice a ss.length cap) ss) (hd:Deep w B ss) (hn:ss.length+zb ss<=1048576) (h0:0<=k) (h1:k+ss.length+zb ss<2097152) :
  Calls Tryz.prog 69 #[.slice a ss.length cap,.int .i64 k] w fun e w'=>e=.returned (.int .i64 (k+zb ss+ss.length))/\(OVr true w' B (.slice a ss.length cap) (mkE true k ss)/\Deep w' B (mkE true k ss))/\Only (fun b=>(Value.slice a ss.length cap).ownBlock=some b\/∃ s ∈ ss,zg s.a b) w w':=by
 have HST:Hid _:=z48 true k ss;have HGE:Hid _:=z7w true k ss;have HSU:Hid _:=z74 true k ss;have HLB:Hid _:=z8p true k ss;have HLE:Hid (∀ j,j<=ss.length->(mkE true k (ss.take j)++ss.drop j).length=ss.length):=fun j hj=>by rw [List.length_append,z1s,List.length_take,List.length_drop];omega
 have HO:Hid (OVr true w B (.slice a ss.length cap) ss/\Deep w B ss):=⟨h,hd⟩;have HMM:Hid (∀ j,j<ss.length->ss.getD j de ∈ ss/\(ss.getD j de).ls.length<=zb ss):=fun j hj=>⟨zf hj,z0c (zf hj)⟩
 clear h hd;have HFI:Hid (mkE true k (ss.take ss.length)++ss.drop ss.length=mkE true k ss/\mkA true k ss ss.length=k+zb ss+ss.length):=⟨by rw [List.take_length];simp,by rw [za1];simp [eO]⟩
 generalize hlen:ss.length=n at *;have HL:Hid (ss.length=n/\True):=⟨hlen,trivial⟩;clear hlen;generalize hT:zb ss=T at *;clear hT
 go_enter Tryz.func69,Tryz.ntmps69
 go_wp2
 go_loopw [1,5] (fun q i wr=>∃ (j:Nat) (y:Int),j<=n/\i=.int .i64 j/\q=.int .i64 y/\y=mkA true k ss j/\OVr true wr B (.slice a n cap) (mkE true k (ss.take j)++ss.drop j)/\Deep wr B (mkE true k (ss.take j)++ss.drop j)/\Only (fun b=>(Value.slice a n cap).ownBlock=some b\/∃ s ∈ ss,zg s.a b) w wr) (fun _ i _=>n-(intOf i).toNat)
 case atStart=>exact ⟨0,k,Nat.zero_le _,rfl,rfl,by simp [mkA,zb],by simpa [mkE] using HO.out.1,by simpa [mkE] using HO.out.2,Only.refl _ _⟩
 case round=>
  clear HO;obtain ⟨j,y,hj,rfl,rfl,hy,hown,hdeep,honly⟩:=hrel;have hyb:=HLB.out j hj;have HY:Hid (y=mkA true k ss j/\True):=⟨hy,trivial⟩;rw [<-hy] at hyb;have HOW:Hid (OVr true wr B (.slice a n cap) (mkE true k (ss.take j)++ss.drop j)/\Deep wr B (mkE true k (ss.take j)++ss.drop j)):=⟨hown,hdeep⟩;have HON:Hid (Only (fun b=>(Value.slice a n cap).ownBlock=some b\/∃ s ∈ ss,zg s.a b) w wr):=honly
  clear hy
  by_cases hjn:j<n
  ·obtain ⟨g,cap',e',_,hg2,hfz,hli⟩:=hown.cell j (by rw [HLE.out j hj];exact hjn)
   have hl0:=(hli j (by rw [HLE.out j hj];exact hjn)).c0 rfl
   have hl1:=(hli j (by rw [HLE.out j hj];exact hjn)).c1
   have hmi:=hdeep.mine _ (zf (k:=j) (by rw [HLE.out j hj];exact hjn))
   rw [HGE.out j hjn] at hl0 hl1 hmi
   simp only [eW,eO,cond_true] at hl0 hl1
   obtain ⟨rfl,-,rfl⟩:a=some ⟨g,0,none⟩/\_/\cap=cap':=by simpa using e'
   have f0:=hfz (j*2);have hst:=HST.out j hjn;rw [<-HY.out.1] at hst;have HSTJ:Hid (_/\True):=⟨hst,trivial⟩;obtain ⟨HIN,hT2⟩:=HMM.out j hjn;have HGJ:Hid (_/\True):=⟨HGE.out j hjn,trivial⟩;have HYN:Hid (mkA true k ss (j+1)=y+1+(ss.getD j de).ls.length/\True):=⟨by rw [HSU.out j hjn,HY.out.1];simp [eO],trivial⟩
   have hlk:j<(mkE true k (ss.take j)++ss.drop j).length:=by rw [HLE.out j hj];exact hjn
   have hlk2:∀ s:El,j<((mkE true k (ss.take j)++ss.drop j).set j s).length:=fun s=>by rw [List.length_set];exact hlk
   have hgs:∀ s:El,((mkE true k (ss.take j)++ss.drop j).set j s).getD j de=s:=fun s=>by rw [z3b _ j j _ hlk,if_pos rfl]
   have hR1:=hown.store j hlk { (ss.getD j de) with n:=y } 0 (by simp [eW]) (.int .i64 y) (by rw [HGE.out j hjn];rfl) (g:=g) rfl
   have hon1:Only (fun b=>b=g) wr (wr.setCell ⟨g,j*2,none⟩ (.int .i64 y)):=(Only.refl (fun b=>b=g) wr).setCell (p:=⟨g,j*2,none⟩) (.inl rfl) _
   have hD1:=hdeep.stay hon1 (fun x hx b hb e=>hown.other (hdeep.mine x hx) (g:=g) rfl (e ▸ hb))
   have hD2:Deep (wr.setCell ⟨g,j*2,none⟩ (.int .i64 y)) B ((mkE true k (ss.take j)++ss.drop j).set j { (ss.getD j de) with n:=y }):=by
    refine ⟨fun t ht=>?_,by rw [z7k _ j _ (by rw [HGE.out j hjn]) hlk];exact hD1.apart⟩
    rcases List.mem_or_eq_of_mem_set ht with ht | rfl
    ·exact hD1.mine t ht
    ·have:=hD1.mine _ (zf hlk)
     rw [HGE.out j hjn] at this;exact this
   have hmi1:=hD2.mine _ (zf (hlk2 _));rw [hgs] at hmi1
   simp only at hmi1
   rw [show j*eW true+0=j*2 from by simp [eW]] at hR1
   have HR1:Hid (OVr true (wr.setCell ⟨g,j*2,none⟩ (.int .i64 y)) B (.slice (some ⟨g,0,none⟩) n cap) ((mkE true k (ss.take j)++ss.drop j).set j { (ss.getD j de) with n:=y })/\Deep (wr.setCell ⟨g,j*2,none⟩ (.int .i64 y)) B ((mkE true k (ss.take j)++ss.drop j).set j { (ss.getD j de) with n:=y })):=⟨hR1,hD2⟩
   have HMI:Hid (Mine (wr.setCell ⟨g,j*2,none⟩ (.int .i64 y)) B (wr.setCell ⟨g,j*2,none⟩ (.int .i64 y)).heap.size (ss.getD j de).a (ss.getD j de).c (ss.getD j de).ls):=hmi1;have HMK:=z1k (ss.getD j de).a B _ (ss.getD j de).c (ss.getD j de).ls (y+1) _ hmi1 (by omega) (by omega) (by omega)
   have HIN':Hid (ss.getD j de ∈ ss):=HIN;have HON1:Hid (Only (fun b=>(Value.slice (some ⟨g,0,none⟩) n cap).ownBlock=some b\/∃ s ∈ ss,zg s.a b) w (wr.setCell ⟨g,j*2,none⟩ (.int .i64 y))):=HON.out.trans (hon1.mono (fun b _ hb=>.inl (by rw [hb];rfl)))
   have HK2:Hid ((∀ s:El,j<((mkE true k (ss.take j)++ss.drop j).set j s).length)/\(∀ s:El,((mkE true k (ss.take j)++ss.drop j).set j s).getD j de=s)):=⟨hlk2,hgs⟩;clear hst hown hdeep honly hmi hli e' HIN HY hR1 hD1 hD2 hmi1 hon1 hlk hlk2 hgs hfz HON HOW;generalize hs:ss.getD j de=s at *;clear hs;go_wp2_with fail
   refine HMK.mono ?_;clear HMK;rintro e w2 ⟨rfl,hm2,ho2⟩;have hc2:(mk1 true y s).cells true=(((mkE true k (ss.take j)++ss.drop j).set j { s with n:=y }).getD j de).cells true:=by rw [HK2.out.2];simp [mk1,El.cells,z0r]
   have hR2:=HR1.out.1.letters j (HK2.out.1 _) (mk1 true y s) hc2 (by rw [HK2.out.2];exact HMI.out) (w':=w2) (by rw [HK2.out.2];exact ho2)
   have hD2:=HR1.out.2.letters j (HK2.out.1 _) (mk1 true y s) (by rw [HK2.out.2];rfl) (w':=w2) (by rw [HK2.out.2];exact ho2) (by simpa [mk1,eO] using hm2)
   rw [List.set_set,HSTJ.out.1] at hR2 hD2;have HN2:Hid _:=And.intro hR2 hD2;have HO2:Hid (Only (fun b=>(Value.slice (some ⟨g,0,none⟩) n cap).ownBlock=some b\/∃ s ∈ ss,zg s.a b) w w2):=HON1.out.trans (ho2.mono (fun b _ hb=>.inr ⟨s,HIN'.out,hb⟩))
   clear hR2 hD2 hc2 ho2 hm2 HMI HGJ HR1 HON1;go_wp2;go_roundw
   case rel=>exact ⟨j+1,_,by omega,by go_num,rfl,HYN.out.1.symm,HN2.out.1,HN2.out.2,HO2.out⟩
   case measure=>simp [intOf];omega
  ·have hjn2:j=n:=by omega
   subst hjn2;have HFO:Hid (OVr true wr B (.slice a j cap) (mkE true k ss)/\Deep wr B (mkE true k ss)):=by rw [<-HFI.out.1];exact HOW.out
   have HYF:Hid (y=k+(T:Nat)+(j:Nat)/\True):=⟨HY.out.1.trans HFI.out.2,trivial⟩;clear HOW hown hdeep;go_wp2;go_ret;exact ⟨by rw [<-HYF.out.1];rfl,HFO.out,HON.out⟩
def z7p (ss:List El):List El:=mkE false 1 ss
def zdi (ss ps:List El):List El:=mkE true (1+zb ss) ps
def mkN (ss ps:List El):Int:=1+zb ss+zb ps+ps.length
theorem zf0 (sa pa:Option Addr) (sc pc B:Nat) (ss ps:List El) (w:World) (h:RawO w B (.slice sa ss.length sc) (.slice pa ps.length pc) ss ps) (hf:Few ss ps) :
  Calls Tryz.prog 33 #[.agg #[.slice sa ss.length sc,.slice pa ps.length pc],.int .i64 1] w fun e w'=>e=.returned (.int .i64 (mkN ss ps))/\RawO w' B (.slice sa ss.length sc) (.slice pa ps.length pc) (z7p ss) (zdi ss ps)/\Only (z3j (.slice sa ss.length sc) (.slice pa ps.length pc) ss ps) w w':=by
 have H0:Hid (RawO w B (.slice sa ss.length sc) (.slice pa ps.length pc) ss ps):=h;have HF:Hid (Few ss ps):=hf;clear h hf
 go_enter Tryz.func33,Tryz.ntmps33
 have HW:Hid (Bw w (w.alloc (Obj.cells #[.slice sa ss.length sc,.slice pa ps.length pc] 40))):=ba;have HX:Hid (Box2 (w.alloc (Obj.cells #[.slice sa ss.length sc,.slice pa ps.length pc] 40)) w.heap.size (.slice sa ss.length sc) (.slice pa ps.length pc)):=Box2.new _ _ _ _;have H1:Hid (RawO (w.alloc (Obj.cells #[.slice sa ss.length sc,.slice pa ps.length pc] 40)) B (.slice sa ss.length sc) (.slice pa ps.length pc) ss ps):=H0.out.below HW.out
 have HO1:Hid (Only (z3j (.slice sa ss.length sc) (.slice pa ps.length pc) ss ps) w (w.alloc (Obj.cells #[.slice sa ss.length sc,.slice pa ps.length pc] 40))):=(Only.refl _ _).alloc _;go_wp2_with fail
 generalize w.alloc (Obj.cells #[.slice sa ss.length sc,.slice pa ps.length pc] 40)=W at *;refine (z91 sa sc B ss 1 W H1.out.rs H1.out.deep.parts.1 (by have:=HF.out.sum;omega) (by omega) (by omega)).mono ?_
 rintro e w1 ⟨rfl,⟨hr1,hd1⟩,ho1⟩;have hin:∀ b,(∃ s ∈ ss,zg s.a b)->z3j (.slice sa ss.length sc) (.slice pa ps.length pc) ss ps b:=fun b ⟨s,hs,hb⟩=>.inr (.inr ⟨s,List.mem_append_left _ hs,hb⟩)
 have hx1:=HX.out.only ho1 (fun hs=>Nat.lt_irrefl _ (H0.out.inside _ (hin _ hs)).2)
 have hp1:OVr true w1 B (.slice pa ps.length pc) ps:=H1.out.rp.stay ho1 (fun b hb ⟨s,hs,hs2⟩=>H1.out.rp.other (H1.out.deep.mine s (List.mem_append_left _ hs)) hb hs2)
 have hq1:Deep w1 B ps:=H1.out.deep.parts.2.1.stay ho1 (fun x hx b hb ⟨s,hs,hs2⟩=>H1.out.deep.parts.2.2 s.a (List.mem_map.2 ⟨s,hs,rfl⟩) x.a (List.mem_map.2 ⟨x,hx,rfl⟩) b hs2 hb)
 have HR1:Hid ((OVr false w1 B (.slice sa ss.length sc) (z7p ss)/\Deep w1 B (z7p ss))/\OVr true w1 B (.slice pa ps.length pc) ps/\Deep w1 B ps):=⟨⟨hr1,hd1⟩,hp1,hq1⟩;have HO2:Hid (Only (z3j (.slice sa ss.length sc) (.slice pa ps.length pc) ss ps) w w1):=HO1.out.trans (ho1.mono (fun b _ hb=>hin b hb))
 have HCR:Hid (∀ x ∈ ss.map El.a,∀ y ∈ ps.map El.a,∀ k,zg x k->¬zg y k):=H1.out.deep.parts.2.2;have HSM:=HF.out.sum;clear hr1 hd1 ho1 hin hp1 hq1 HO1 H1 HX HW;obtain ⟨x0,x1,-,-,xl⟩:=hx1;have HMP:=zbh pa pc B ps (1+zb ss) w1 HR1.out.2.1 HR1.out.2.2 (by omega) (by omega) (by omega)
 have HNN:Hid (mkN ss ps=1+(zb ss:Int)+zb ps+ps.length/\True):=⟨rfl,trivial⟩;generalize hE:zb ss=E at *;have HE:Hid (zb ss=E/\True):=⟨hE,trivial⟩;clear hE;go_wp2_with fail
 refine HMP.mono ?_;clear HMP;rintro e w2 ⟨rfl,⟨hr2,hd2⟩,ho2⟩;have hin2:∀ b,((Value.slice pa ps.length pc).ownBlock=some b\/∃ s ∈ ps,zg s.a b)->z3j (.slice sa ss.length sc) (.slice pa ps.length pc) ss ps b:=by
  rintro b (hb | ⟨s,hs,hb⟩)
  ·exact .inr (.inl hb)
  ·exact .inr (.inr ⟨s,List.mem_append_right _ hs,hb⟩)
 have HO3:Hid (Only (z3j (.slice sa ss.length sc) (.slice pa ps.length pc) ss ps) w w2):=HO2.out.trans (ho2.mono (fun b _ hb=>hin2 b hb))
 have hs2:OVr false w2 B (.slice sa ss.length sc) (z7p ss):=HR1.out.1.1.stay ho2 (by
  rintro b hb (h | ⟨s,hs,hs2⟩)
  ·exact HR1.out.1.1.two HR1.out.2.1 hb h
  ·exact HR1.out.1.1.other (HR1.out.2.2.mine s hs) hb hs2)
 have ht2:Deep w2 B (z7p ss):=HR1.out.1.2.stay ho2 (by
  rintro x hx b hb (h | ⟨s,hs,hs2⟩)
  ·exact HR1.out.2.1.other (HR1.out.1.2.mine x hx) h hb
  ·have hxa:x.a ∈ ss.map El.a:=by
    rw [<-zgz false 1 ss];exact List.mem_map.2 ⟨x,hx,rfl⟩
   exact HCR.out x.a hxa s.a (List.mem_map.2 ⟨s,hs,rfl⟩) b hb hs2)
 have HFIN:Hid (RawO w2 B (.slice sa ss.length sc) (.slice pa ps.length pc) (z7p ss) (zdi ss ps)):=by
  refine ⟨hs2,?_,ht2.join ?_ ?_,?_,?_⟩
  ·unfold zdi;rw [HE.out.1];exact hr2
  ·unfold zdi;rw [HE.out.1];exact hd2
  ·unfold z7p zdi;rw [zgz,zgz];exact HCR.out
  ·exact zfj false 1 ss H0.out.rng.1 (by omega) (by have:=HE.out.1;omega)
  ·exact zfj true _ ps H0.out.rng.2 (by omega) (by have:=HE.out.1;omega)
 clear hr2 hd2 ho2 hin2 hs2 ht2 HR1 HO2 x0 x1;go_wp2;go_ret;exact ⟨by rw [HNN.out.1];rfl,HFIN.out,HO3.out⟩
def mkP (k:Int):Nat->List (Int × Int)
 | 0=>[]
 | n+1=>mkP k n++[(k+(n*2:Nat),k+(n*2:Nat)+1)]
theorem z9t (k:Int) (n:Nat):(mkP k n).length=n:=by
 induction n with
 | zero=>rfl
 | succ n ih=>simp [mkP,ih]
theorem zjm (k:Int) (ps:List (Int × Int)) (j:Nat) (h:j<ps.length):(mkP k j++ps.drop j).set j (k+(j*2:Nat),k+(j*2:Nat)+1)=mkP k (j+1)++ps.drop (j+1):=by
 rw [List.set_append_right _ _ (by rw [z9t];exact Nat.le_refl _),z9t,Nat.sub_self,List.drop_eq_getElem_cons h,List.set_cons_zero]
 simp [mkP]
theorem z9v (B g cap:Nat) (ps:List (Int × Int)) (k:Int) (w:World) (h:OwP w B g cap ps) (hn:ps.length<=1048576) (h0:0<=k) (h1:k<=4194304) :
  Calls Tryz.prog 70 #[.slice (some ⟨g,0,none⟩) ps.length cap,.int .i64 k] w fun e w'=>e=.returned (.int .i64 (k+(ps.length*2:Nat)))/\OwP w' B g cap (mkP k ps.length)/\Only (·=g) w w':=by
 generalize hlen:ps.length=n at *;have HL:Hid (ps.length=n/\True):=⟨hlen,trivial⟩;clear hlen;have HO:Hid (OwP w B g cap ps):=h;clear h
 go_enter Tryz.func70,Tryz.ntmps70
 go_wp2
 go_loopw [1,5] (fun q i wr=>∃ (j:Nat) (y:Int),j<=n/\i=.int .i64 j/\q=.int .i64 y/\y=k+(j*2:Nat)/\OwP wr B g cap (mkP k j++ps.drop j)/\Only (·=g) w wr) (fun _ i _=>n-(intOf i).toNat)
 case atStart=>exact ⟨0,k,Nat.zero_le _,rfl,rfl,by simp,by simpa [mkP] using HO.out,Only.refl _ _⟩
 case round=>
  obtain ⟨j,y,hj,rfl,rfl,hy,hown,honly⟩:=hrel;have HY:Hid (y=k+(j*2:Nat)/\True):=⟨hy,trivial⟩;have hyb:0<=y/\y<=8000000:=by omega
  by_cases hlt:j<n
  ·have hl:(mkP k j++ps.drop j).length=n:=by rw [List.length_append,z9t,List.length_drop,HL.out.1];omega
   obtain ⟨c0,c1⟩:=hown.cell j (by omega)
   have f0:=hown.frozen (j*2);have f1:=hown.frozen (j*2+1);have R:=hown.store j (by omega) (y,y+1) ⟨by simp only;omega,by simp only;omega⟩
   rw [hy,zjm k ps j (by rw [HL.out.1];exact hlt),<-hy] at R
   have HR:Hid (OwP ((wr.setCell ⟨g,j*2,none⟩ (.int .i64 y)).setCell ⟨g,j*2+1,none⟩ (.int .i64 (y+1))) B g cap (mkP k (j+1)++ps.drop (j+1))):=R;have HB:Hid (Only (·=g) w ((wr.setCell ⟨g,j*2,none⟩ (.int .i64 y)).setCell ⟨g,j*2+1,none⟩ (.int .i64 (y+1)))):=(honly.setCell (.inl rfl) _).setCell (.inl rfl) _;generalize ((mkP k j++ps.drop j).getD j dp).1=o0 at *;generalize ((mkP k j++ps.drop j).getD j dp).2=o1 at *
   clear R hown honly hl hy;go_wp2;go_roundw
   case rel=>exact ⟨j+1,y+1+1,by omega,by go_num,by go_num,by rw [HY.out.1];omega,HR.out,HB.out⟩
   case measure=>simp [intOf];omega
  ·have hjn:j=n:=by omega
   subst hjn;have hown':=hown;rw [List.drop_of_length_le (by rw [HL.out.1];exact Nat.le_refl _),List.append_nil] at hown'
   have HF:Hid (OwP wr B g cap (mkP k j)):=hown';clear hown hown' hy;go_wp2;go_ret;exact ⟨by rw [<-HY.out.1];rfl,HF.out,honly⟩
theorem z9l (a:Option Addr) (B U cap:Nat) (ps:List (Int × Int)) (k:Int) (w:World) (h:MinP w B U a cap ps) (hn:ps.length<=1048576) (h0:0<=k) (h1:k<=4194304) :
  Calls Tryz.prog 70 #[.slice a ps.length cap,.int .i64 k] w fun e w'=>e=.returned (.int .i64 (k+(ps.length*2:Nat)))/\MinP w' B U a cap (mkP k ps.length)/\Only (zg a) w w':=by
 rcases h with ⟨rfl,rfl,rfl⟩ | ⟨g,rfl,g1,g2,h⟩
 ·go_enter Tryz.func70,Tryz.ntmps70
  go_wp2
  refine wp_loop_rounds 1 ?_;rw [rounds_succ];go_wp2;go_ret;exact ⟨by simp,.inl ⟨rfl,rfl,rfl⟩,Only.refl _ _⟩
 ·refine (z9v B g cap ps k w h hn h0 h1).mono ?_
  rintro e w' ⟨rfl,ho,hy⟩;exact ⟨rfl,.inr ⟨g,rfl,g1,g2,ho⟩,hy.mono (fun k _ hk=>⟨_,rfl,hk.symm⟩)⟩
theorem z6n (a:Option Addr) (B U cap:Nat) (ps:List (Int × Int)) (k:Int) (w:World) (h:MinP w B U a cap ps) (hU:U<=w.heap.size) (hn:ps.length<=1048576) (h0:0<=k) (h1:k<=4194304) :
  Calls Tryz.prog 34 #[.agg #[.slice a ps.length cap],.int .i64 k] w fun e w'=>e=.returned (.int .i64 (k+(ps.length*2:Nat)))/\MinP w' B U a cap (mkP k ps.length)/\Only (zg a) w w':=by
 have hw:Bw w (w.alloc (Obj.cells #[.slice a ps.length cap] 43)):=ba
 go_enter Tryz.func34,Tryz.ntmps34
 go_wp2_with fail
 refine (z9l a B U cap ps k _ (h.below hw) hn h0 h1).mono ?_;rintro e w1 ⟨rfl,hm,ho⟩;have HO:Hid (Only (zg a) w w1):=(Only.ofBelow hw nl).trans ho;have HM:Hid (MinP w1 B U a cap (mkP k ps.length)):=hm;clear hm ho;go_wp2;go_ret;exact ⟨rfl,HM.out,HO.out⟩
def z0q (k:Int):Nat->List Int
 | 0=>[]
 | n+1=>z0q k n++[k+n]
theorem z4a (k:Int) (n:Nat):(z0q k n).length=n:=by
 induction n with
 | zero=>rfl
 | succ n ih=>simp [z0q,ih]
theorem zf9 (k:Int) (zs:List Int) (j:Nat) (h:j<zs.length):(z0q k j++zs.drop j).set j (k+j)=z0q k (j+1)++zs.drop (j+1):=by
 rw [List.set_append_right _ _ (by rw [z4a];exact Nat.le_refl _),z4a,Nat.sub_self,List.drop_eq_getElem_cons h,List.set_cons_zero]
 simp [z0q]
theorem zc3 (B g cap:Nat) (zs:List Int) (k:Int) (w:World) (h:OwI w B g cap zs) (hn:zs.length<=2097152) (h0:0<=k) (h1:k<=4194304) :
  Calls Tryz.prog 35 #[.slice (some ⟨g,0,none⟩) zs.length cap,.int .i64 k] w fun e w'=>e=.returned (.int .i64 (k+zs.length))/\OwI w' B g cap (z0q k zs.length)/\Only (·=g) w w':=by
 generalize hlen:zs.length=n at *;have HL:Hid (zs.length=n):=hlen;clear hlen;have HO:Hid (OwI w B g cap zs):=h;clear h
 go_enter Tryz.func35,Tryz.ntmps35
 go_wp2
 go_loopw [1,5] (fun q i wr=>∃ j:Nat,j<=n/\i=.int .i64 j/\q=.int .i64 (k+j)/\OwI wr B g cap (z0q k j++zs.drop j)/\Only (·=g) w wr) (fun _ i _=>n-(intOf i).toNat)
 case atStart=>exact ⟨0,Nat.zero_le _,rfl,by simp,by simpa [z0q] using HO.out,Only.refl _ _⟩
 case round=>
  obtain ⟨j,hj,rfl,rfl,hown,honly⟩:=hrel
  by_cases hlt:j<n
  ·have hl:(z0q k j++zs.drop j).length=n:=by rw [List.length_append,z4a,List.length_drop,HL.out];omega
   have hdst:=hown.cell j (by omega)
   have hfz:=hown.frozen j;have R:=hown.store j (k+j) (by omega)
   rw [zf9 k zs j (by rw [HL.out];exact hlt)] at R
   have HR:Hid (OwI (wr.setCell ⟨g,j,none⟩ (.int .i64 (k+j))) B g cap (z0q k (j+1)++zs.drop (j+1))):=R;have HB:Hid (Only (·=g) w (wr.setCell ⟨g,j,none⟩ (.int .i64 (k+j)))):=honly.setCell (.inl rfl) _;generalize (z0q k j++zs.drop j).getD j 0=old at *;clear R hown honly hl;go_wp2;go_roundw
   case rel=>exact ⟨j+1,by omega,by go_num,by go_num,HR.out,HB.out⟩
   case measure=>simp [intOf];omega
  ·have hjn:j=n:=by omega
   subst hjn;have hown':=hown;rw [List.drop_of_length_le (by rw [HL.out];exact Nat.le_refl _),List.append_nil] at hown'
   have HF:Hid (OwI wr B g cap (z0q k j)):=hown';clear hown hown';go_wp2;go_ret;exact ⟨rfl,HF.out,honly⟩
theorem zc2 (a:Option Addr) (B U cap:Nat) (zs:List Int) (k:Int) (w:World) (h:MinI w B U a cap zs) (hn:zs.length<=2097152) (h0:0<=k) (h1:k<=4194304) :
  Calls Tryz.prog 35 #[.slice a zs.length cap,.int .i64 k] w fun e w'=>e=.returned (.int .i64 (k+zs.length))/\MinI w' B U a cap (z0q k zs.length)/\Only (zg a) w w':=by
 rcases h with ⟨rfl,rfl,rfl⟩ | ⟨g,rfl,g1,g2,h⟩
 ·go_enter Tryz.func35,Tryz.ntmps35
  go_wp2
  refine wp_loop_rounds 1 ?_;rw [rounds_succ];go_wp2;go_ret;exact ⟨by simp,.inl ⟨rfl,rfl,rfl⟩,Only.refl _ _⟩
 ·refine (zc3 B g cap zs k w h hn h0 h1).mono ?_
  rintro e w' ⟨rfl,ho,hy⟩;exact ⟨rfl,.inr ⟨g,rfl,g1,g2,ho⟩,hy.mono (fun k _ hk=>⟨_,rfl,hk.symm⟩)⟩
section
variable {w w' : World} {B : Nat} {v : Value} {es : List El}
theorem OVt.letters (h:OVt w B v es) (k:Nat) (hk:k<es.length) (s:El) (hs:s.cells true=(es.getD k de).cells true) (hm:Mine w B w.heap.size (es.getD k de).a (es.getD k de).c (es.getD k de).ls) (ho:Only (zg (es.getD k de).a) w w'):OVt w' B v (es.set k s):=by
 have h2:=h.stay ho (fun b hb=>h.other hm hb)
 exact ⟨by rw [List.length_set,zas true es s k hk hs];exact h2.own⟩
end
theorem zb3 (a:Option Addr) (cap B:Nat) (ss:List El) (k:Int) (w:World) (h:OVt w B (.slice a ss.length cap) ss) (hd:Deep w B ss) (hn:ss.length+zb ss<=1048576) (h0:0<=k) (h1:k+ss.length+zb ss<=2097152) :
  Calls Tryz.prog 71 #[.slice a ss.length cap,.int .i64 k] w fun e w'=>e=.returned (.int .i64 (k+zb ss+ss.length))/\(OVt w' B (.slice a ss.length cap) (mkE true k ss)/\Deep w' B (mkE true k ss))/\Only (fun b=>(Value.slice a ss.length cap).ownBlock=some b\/∃ s ∈ ss,zg s.a b) w w':=by
 have HST:Hid _:=z48 true k ss;have HGE:Hid _:=z7w true k ss;have HSU:Hid _:=z74 true k ss;have HLB:Hid _:=z8p true k ss;have HLE:Hid (∀ j,j<=ss.length->(mkE true k (ss.take j)++ss.drop j).length=ss.length):=fun j hj=>by rw [List.length_append,z1s,List.length_take,List.length_drop];omega
 have HO:Hid (OVt w B (.slice a ss.length cap) ss/\Deep w B ss):=⟨h,hd⟩;have HMM:Hid (∀ j,j<ss.length->ss.getD j de ∈ ss/\(ss.getD j de).ls.length<=zb ss):=fun j hj=>⟨zf hj,z0c (zf hj)⟩
 clear h hd;have HFI:Hid (mkE true k (ss.take ss.length)++ss.drop ss.length=mkE true k ss/\mkA true k ss ss.length=k+zb ss+ss.length):=⟨by rw [List.take_length];simp,by rw [za1];simp [eO]⟩
 generalize hlen:ss.length=n at *;have HL:Hid (ss.length=n/\True):=⟨hlen,trivial⟩;clear hlen;generalize hT:zb ss=T at *;clear hT
 go_enter Tryz.func71,Tryz.ntmps71
 go_wp2
 go_loopw [1,5] (fun q i wr=>∃ (j:Nat) (y:Int),j<=n/\i=.int .i64 j/\q=.int .i64 y/\y=mkA true k ss j/\OVt wr B (.slice a n cap) (mkE true k (ss.take j)++ss.drop j)/\Deep wr B (mkE true k (ss.take j)++ss.drop j)/\Only (fun b=>(Value.slice a n cap).ownBlock=some b\/∃ s ∈ ss,zg s.a b) w wr) (fun _ i _=>n-(intOf i).toNat)
 case atStart=>exact ⟨0,k,Nat.zero_le _,rfl,rfl,by simp [mkA,zb],by simpa [mkE] using HO.out.1,by simpa [mkE] using HO.out.2,Only.refl _ _⟩
 case round=>
  clear HO;obtain ⟨j,y,hj,rfl,rfl,hy,hown,hdeep,honly⟩:=hrel;have hyb:=HLB.out j hj;have HY:Hid (y=mkA true k ss j/\True):=⟨hy,trivial⟩;rw [<-hy] at hyb;have HOW:Hid (OVt wr B (.slice a n cap) (mkE true k (ss.take j)++ss.drop j)/\Deep wr B (mkE true k (ss.take j)++ss.drop j)):=⟨hown,hdeep⟩;have HON:Hid (Only (fun b=>(Value.slice a n cap).ownBlock=some b\/∃ s ∈ ss,zg s.a b) w wr):=honly
  clear hy
  by_cases hjn:j<n
  ·obtain ⟨g,cap',e',_,hg2,hfz,hli⟩:=hown.cell j (by rw [HLE.out j hj];exact hjn)
   have hl0:=(hli j (by rw [HLE.out j hj];exact hjn)).c0 rfl
   have hl1:=(hli j (by rw [HLE.out j hj];exact hjn)).c1
   have hmi:=hdeep.mine _ (zf (k:=j) (by rw [HLE.out j hj];exact hjn))
   rw [HGE.out j hjn] at hl0 hl1 hmi
   simp only [eW,eO,cond_true] at hl0 hl1
   obtain ⟨rfl,-,rfl⟩:a=some ⟨g,0,none⟩/\_/\cap=cap':=by simpa using e'
   have f0:=hfz (j*2);have hst:=HST.out j hjn;rw [<-HY.out.1] at hst;have HSTJ:Hid (_/\True):=⟨hst,trivial⟩;obtain ⟨HIN,hT2⟩:=HMM.out j hjn;have HGJ:Hid (_/\True):=⟨HGE.out j hjn,trivial⟩;have HYN:Hid (mkA true k ss (j+1)=y+1+(ss.getD j de).ls.length/\True):=⟨by rw [HSU.out j hjn,HY.out.1];simp [eO],trivial⟩
   have hlk:j<(mkE true k (ss.take j)++ss.drop j).length:=by rw [HLE.out j hj];exact hjn
   have hlk2:∀ s:El,j<((mkE true k (ss.take j)++ss.drop j).set j s).length:=fun s=>by rw [List.length_set];exact hlk
   have hgs:∀ s:El,((mkE true k (ss.take j)++ss.drop j).set j s).getD j de=s:=fun s=>by rw [z3b _ j j _ hlk,if_pos rfl]
   have hR1:=hown.store j hlk { (ss.getD j de) with n:=y } 0 (by simp [eW]) (.int .i64 y) (by rw [HGE.out j hjn];rfl) (g:=g) rfl
   have hon1:Only (fun b=>b=g) wr (wr.setCell ⟨g,j*2,none⟩ (.int .i64 y)):=(Only.refl (fun b=>b=g) wr).setCell (p:=⟨g,j*2,none⟩) (.inl rfl) _
   have hD1:=hdeep.stay hon1 (fun x hx b hb e=>hown.other (hdeep.mine x hx) (g:=g) rfl (e ▸ hb))
   have hD2:Deep (wr.setCell ⟨g,j*2,none⟩ (.int .i64 y)) B ((mkE true k (ss.take j)++ss.drop j).set j { (ss.getD j de) with n:=y }):=by
    refine ⟨fun t ht=>?_,by rw [z7k _ j _ (by rw [HGE.out j hjn]) hlk];exact hD1.apart⟩
    rcases List.mem_or_eq_of_mem_set ht with ht | rfl
    ·exact hD1.mine t ht
    ·have:=hD1.mine _ (zf hlk)
     rw [HGE.out j hjn] at this;exact this
   have hmi1:=hD2.mine _ (zf (hlk2 _));rw [hgs] at hmi1
   simp only at hmi1
   rw [show j*eW true+0=j*2 from by simp [eW]] at hR1
   have HR1:Hid (OVt (wr.setCell ⟨g,j*2,none⟩ (.int .i64 y)) B (.slice (some ⟨g,0,none⟩) n cap) ((mkE true k (ss.take j)++ss.drop j).set j { (ss.getD j de) with n:=y })/\Deep (wr.setCell ⟨g,j*2,none⟩ (.int .i64 y)) B ((mkE true k (ss.take j)++ss.drop j).set j { (ss.getD j de) with n:=y })):=⟨hR1,hD2⟩
   have HMI:Hid (Mine (wr.setCell ⟨g,j*2,none⟩ (.int .i64 y)) B (wr.setCell ⟨g,j*2,none⟩ (.int .i64 y)).heap.size (ss.getD j de).a (ss.getD j de).c (ss.getD j de).ls):=hmi1;have HMK:=z1k (ss.getD j de).a B _ (ss.getD j de).c (ss.getD j de).ls (y+1) _ hmi1 (by omega) (by omega) (by have h9:=HLB.out (j+1) (by omega);rw [HYN.out.1] at h9;omega)
   have HIN':Hid (ss.getD j de ∈ ss):=HIN;have HON1:Hid (Only (fun b=>(Value.slice (some ⟨g,0,none⟩) n cap).ownBlock=some b\/∃ s ∈ ss,zg s.a b) w (wr.setCell ⟨g,j*2,none⟩ (.int .i64 y))):=HON.out.trans (hon1.mono (fun b _ hb=>.inl (by rw [hb];rfl)))
   have HK2:Hid ((∀ s:El,j<((mkE true k (ss.take j)++ss.drop j).set j s).length)/\(∀ s:El,((mkE true k (ss.take j)++ss.drop j).set j s).getD j de=s)):=⟨hlk2,hgs⟩;clear hst hown hdeep honly hmi hli e' HIN HY hR1 hD1 hD2 hmi1 hon1 hlk hlk2 hgs hfz HON HOW;generalize hs:ss.getD j de=s at *;clear hs;go_wp2_with fail
   refine HMK.mono ?_;clear HMK;rintro e w2 ⟨rfl,hm2,ho2⟩;have hc2:(mk1 true y s).cells true=(((mkE true k (ss.take j)++ss.drop j).set j { s with n:=y }).getD j de).cells true:=by rw [HK2.out.2];simp [mk1,El.cells,z0r]
   have hR2:=HR1.out.1.letters j (HK2.out.1 _) (mk1 true y s) hc2 (by rw [HK2.out.2];exact HMI.out) (w':=w2) (by rw [HK2.out.2];exact ho2)
   have hD2:=HR1.out.2.letters j (HK2.out.1 _) (mk1 true y s) (by rw [HK2.out.2];rfl) (w':=w2) (by rw [HK2.out.2];exact ho2) (by simpa [mk1,eO] using hm2)
   rw [List.set_set,HSTJ.out.1] at hR2 hD2;have HN2:Hid _:=And.intro hR2 hD2;have HO2:Hid (Only (fun b=>(Value.slice (some ⟨g,0,none⟩) n cap).ownBlock=some b\/∃ s ∈ ss,zg s.a b) w w2):=HON1.out.trans (ho2.mono (fun b _ hb=>.inr ⟨s,HIN'.out,hb⟩))
   clear hR2 hD2 hc2 ho2 hm2 HMI HGJ HR1 HON1;go_wp2;go_roundw
   case rel=>exact ⟨j+1,_,by omega,by go_num,rfl,HYN.out.1.symm,HN2.out.1,HN2.out.2,HO2.out⟩
   case measure=>simp [intOf];omega
  ·have hjn2:j=n:=by omega
   subst hjn2;have HFO:Hid (OVt wr B (.slice a j cap) (mkE true k ss)/\Deep wr B (mkE true k ss)):=by rw [<-HFI.out.1];exact HOW.out
   have HYF:Hid (y=k+(T:Nat)+(j:Nat)/\True):=⟨HY.out.1.trans HFI.out.2,trivial⟩;clear HOW hown hdeep;go_wp2;go_ret;exact ⟨by rw [<-HYF.out.1];rfl,HFO.out,HON.out⟩
theorem zc4 (E O:Int) (a:Option Addr) (cap B:Nat) (ss:List El) (k:Int) (w:World) (h:OVt w B (.slice a ss.length cap) ss) (hd:Deep w B ss) (hn:ss.length+zb ss<=1048576) (h0:0<=k) (h1:k+ss.length+zb ss<=2097152) :
  Calls Tryz.prog 36 #[.agg #[.int .i64 E,.int .i64 O,.slice a ss.length cap],.int .i64 k] w fun e w'=>e=.returned (.int .i64 (k+zb ss+ss.length))/\(OVt w' B (.slice a ss.length cap) (mkE true k ss)/\Deep w' B (mkE true k ss))/\Only (fun b=>(Value.slice a ss.length cap).ownBlock=some b\/∃ s ∈ ss,zg s.a b) w w':=by
 have hw:Bw w (w.alloc (Obj.cells #[.int .i64 E,.int .i64 O,.slice a ss.length cap] 46)):=ba;have HM:=zb3 a cap B ss k _ (h.below hw) (hd.below hw) hn h0 h1;clear h hd
 go_enter Tryz.func36,Tryz.ntmps36
 go_wp2_with fail
 refine HM.mono ?_;clear HM;rintro e w1 ⟨rfl,h2,h3⟩;have HF:Hid ((OVt w1 B (.slice a ss.length cap) (mkE true k ss)/\Deep w1 B (mkE true k ss))/\Only (fun b=>(Value.slice a ss.length cap).ownBlock=some b\/∃ s ∈ ss,zg s.a b) w w1):=⟨h2,((Only.refl (fun b=>(Value.slice a ss.length cap).ownBlock=some b\/∃ s ∈ ss,zg s.a b) w).alloc _).trans h3⟩
 clear h2 h3 hw;go_wp2;go_ret;exact ⟨rfl,HF.out.1,HF.out.2⟩
theorem zbm (a:Option Addr) (cap:Nat) (k:Int) (w:World):Calls Tryz.prog 71 #[.slice a 0 cap,.int .i64 k] w fun e w'=>e=.returned (.int .i64 k)/\w'=w:=by
 go_enter Tryz.func71,Tryz.ntmps71
 go_wp2
 go_loopw [1,5] (fun q i wr=>i=.int .i64 0/\q=.int .i64 k/\wr=w) (fun _ _ _=>0)
 case atStart=>exact ⟨rfl,rfl,rfl⟩
 case round=>
  obtain ⟨rfl,rfl,rfl⟩:=hrel;go_wp2;go_ret;exact ⟨rfl,rfl⟩
theorem zdh (E O:Int) (a:Option Addr) (cap:Nat) (k:Int) (w:World):Calls Tryz.prog 36 #[.agg #[.int .i64 E,.int .i64 O,.slice a 0 cap],.int .i64 k] w fun e w'=>e=.returned (.int .i64 k)/\Below w.heap.size w w':=by
 have hw:Bw w (w.alloc (Obj.cells #[.int .i64 E,.int .i64 O,.slice a 0 cap] 46)):=ba;have HM:=zbm a cap k (w.alloc (Obj.cells #[.int .i64 E,.int .i64 O,.slice a 0 cap] 46))
 go_enter Tryz.func36,Tryz.ntmps36
 go_wp2_with fail
 refine HM.mono ?_;clear HM;rintro e w1 ⟨rfl,rfl⟩;go_wp2;go_ret;exact ⟨rfl,hw⟩
theorem zbe (E O:Int) (a:Option Addr) (cap B:Nat) (ss:List El) (k:Int) (w:World) (h:OVt w B (.slice a ss.length cap) ss) (hd:Deep w B ss) (hn:ss.length+zb ss<=1048576) (h0:0<=k) (h1:ss.length=0\/k+ss.length+zb ss<=2097152) :
  Calls Tryz.prog 36 #[.agg #[.int .i64 E,.int .i64 O,.slice a ss.length cap],.int .i64 k] w fun e w'=>e=.returned (.int .i64 (k+zb ss+ss.length))/\Only (fun b=>(Value.slice a ss.length cap).ownBlock=some b\/∃ s ∈ ss,zg s.a b) w w':=by
 rcases h1 with h1 | h1
 ·obtain rfl:ss=[]:=List.eq_nil_of_length_eq_zero h1
  refine (zdh E O a cap k w).mono ?_;rintro e w1 ⟨rfl,hb⟩;exact ⟨by simp [zb],Only.ofBelow hb nl⟩
 ·exact (zc4 E O a cap B ss k w h hd hn h0 h1).mono fun e w1 h2=>⟨h2.1,h2.2.2⟩
structure Snp (w W:World) (N U V Z:Nat) (PB PW PX PG:World->Prop):Prop where
 bel:Below w.heap.size w W
 ord:w.heap.size<=N/\N<=U/\U<=V/\V<=Z/\Z<=W.heap.size
 sb:Stab w.heap.size N PB
 hb:PB W
 sw:Stab N U PW
 hw:PW W
 sx:Stab U V PX
 hx:PX W
 sg:Stab V Z PG
 hg:PG W
section
variable {w W W' : World} {N U V Z : Nat} {PB PW PX PG : World -> Prop}
theorem Snp.step (h:Snp w W N U V Z PB PW PX PG) (hb:Below W.heap.size W W'):Snp w W' N U V Z PB PW PX PG:=by
 have o:=h.ord;have hs:=hb.size;have ho:Only (fun _=>False) W W':=Only.ofBelow hb nl
 exact ⟨h.bel.trans (hb.mono (by omega)),by omega,h.sb,h.sb _ _ _ h.hb ho (by simp) (by omega),h.sw,h.sw _ _ _ h.hw ho (by simp) (by omega),h.sx,h.sx _ _ _ h.hx ho (by simp) (by omega),h.sg,h.sg _ _ _ h.hg ho (by simp) (by omega)⟩
theorem Snp.drew (h:Snp w W N U V Z PB PW PX PG) (n:Nat):Snp w (W.drewN n) N U V Z PB PW PX PG:=h.step ⟨rfl,rfl,rfl,Nat.le_refl _,fun _ _=>rfl⟩
theorem Snp.markX {T:Nat->Prop} {PX':World->Prop} (h:Snp w W N U V Z PB PW PX PG) (ho:Only T W W') (hT:∀ k,T k->U<=k/\k<V) (sx:Stab U V PX') (hx:PX' W'):Snp w W' N U V Z PB PW PX' PG:=by
 have o:=h.ord;have hs:=ho.size;have hbel:Below w.heap.size W W':=ho.below (by omega) (fun k hk=>by have:=hT k hk;omega)
 exact ⟨h.bel.trans hbel,by omega,h.sb,h.sb _ _ _ h.hb ho (fun k h1 h2 hk=>by have:=hT k hk;omega) (by omega),h.sw,h.sw _ _ _ h.hw ho (fun k h1 h2 hk=>by have:=hT k hk;omega) (by omega),sx,hx,h.sg,h.sg _ _ _ h.hg ho (fun k h1 h2 hk=>by have:=hT k hk;omega) (by omega)⟩
theorem Snp.markG {T:Nat->Prop} {PG':World->Prop} (h:Snp w W N U V Z PB PW PX PG) (ho:Only T W W') (hT:∀ k,T k->V<=k/\k<Z) (sg:Stab V Z PG') (hg:PG' W'):Snp w W' N U V Z PB PW PX PG':=by
 have o:=h.ord;have hs:=ho.size;have hbel:Below w.heap.size W W':=ho.below (by omega) (fun k hk=>by have:=hT k hk;omega)
 exact ⟨h.bel.trans hbel,by omega,h.sb,h.sb _ _ _ h.hb ho (fun k h1 h2 hk=>by have:=hT k hk;omega) (by omega),h.sw,h.sw _ _ _ h.hw ho (fun k h1 h2 hk=>by have:=hT k hk;omega) (by omega),h.sx,h.sx _ _ _ h.hx ho (fun k h1 h2 hk=>by have:=hT k hk;omega) (by omega),sg,hg⟩
end
theorem MinI.rowT {W:World} {B D:Nat} {a:Option Addr} {c:Nat} {zs:List Int} (h:MinI W B D a c zs) {k:Nat} (hk:zg a k):B<=k/\k<D:=by
 obtain ⟨x,hx,rfl⟩:=hk;rcases h with ⟨h',_⟩ | ⟨g,h',g1,g2,_⟩
 ·rw [h'] at hx;cases hx
 ·rw [h'] at hx
  simp at hx
  rw [<-hx];exact ⟨g1,g2⟩
theorem Mine.rowT {W:World} {B D:Nat} {a:Option Addr} {c:Nat} {zs:List Int} (h:Mine W B D a c zs) {k:Nat} (hk:zg a k):B<=k/\k<D:=by
 obtain ⟨x,hx,rfl⟩:=hk;rcases h with ⟨h',_⟩ | ⟨g,h',g1,g2,_⟩
 ·rw [h'] at hx;cases hx
 ·rw [h'] at hx
  simp at hx
  rw [<-hx];exact ⟨g1,g2⟩
set_option linter.unusedSimpArgs false
theorem Dk10.only {S:Nat->Prop} {W W':World} {b:Nat} {d:DkV} (h:Dk10 W b d) (ho:Only S W W') (hs:¬S b):Dk10 W' b d:=⟨ho.cell h.lt hs h.c0,ho.cell h.lt hs h.c1,ho.cell h.lt hs h.c2,ho.cell h.lt hs h.c3,ho.cell h.lt hs h.c4,ho.cell h.lt hs h.c5,ho.cell h.lt hs h.c6,ho.cell h.lt hs h.c7,ho.cell h.lt hs h.c8,ho.cell h.lt hs h.c9,Nat.lt_of_lt_of_le h.lt ho.size⟩
theorem zdc (d:DkV) (B B1 B2 B3 B4 Z:Nat) (w:World) (h:DkO w B B1 B2 B3 B4 Z d) (hZ:Z<=w.heap.size) (hf:DkF d) :
  Calls Tryz.prog 10 #[.agg #[.slice d.sa d.ss.length d.sc,.slice d.pa d.ps.length d.pc,.int .i64 d.E,.int .i64 d.O,.slice d.ma d.ms.length d.mc,.slice d.va d.vs.length d.vc,.slice d.ca d.cs.length d.cc,.int .i64 d.F,.int .i64 d.G,.slice d.oa d.os.length d.oc],.int .i64 1] w fun e w'=>(∃ z:Int,e=.returned (.int .i64 z)/\0<=z/\z<=4194304)/\Only (fun b=>B<=b/\b<Z) w w':=by
 have hw:Bw w (w.alloc (Obj.cells #[.slice d.sa d.ss.length d.sc,.slice d.pa d.ps.length d.pc,.int .i64 d.E,.int .i64 d.O,.slice d.ma d.ms.length d.mc,.slice d.va d.vs.length d.vc,.slice d.ca d.cs.length d.cc,.int .i64 d.F,.int .i64 d.G,.slice d.oa d.os.length d.oc] 48)):=ba;have hx0:=Dk10.new w d 48;have h0:=(DkO.stab nl nl).below h hw hZ;have HO0:Hid (Only (fun b=>B<=b/\b<Z) w (w.alloc (Obj.cells #[.slice d.sa d.ss.length d.sc,.slice d.pa d.ps.length d.pc,.int .i64 d.E,.int .i64 d.O,.slice d.ma d.ms.length d.mc,.slice d.va d.vs.length d.vc,.slice d.ca d.cs.length d.cc,.int .i64 d.F,.int .i64 d.G,.slice d.oa d.os.length d.oc] 48))/\Z<=((w.alloc (Obj.cells #[.slice d.sa d.ss.length d.sc,.slice d.pa d.ps.length d.pc,.int .i64 d.E,.int .i64 d.O,.slice d.ma d.ms.length d.mc,.slice d.va d.vs.length d.vc,.slice d.ca d.cs.length d.cc,.int .i64 d.F,.int .i64 d.G,.slice d.oa d.os.length d.oc] 48))).heap.size/\Z<=w.heap.size):=⟨Only.ofBelow hw nl,Nat.le_trans hZ hw.size,hZ⟩
 have hord:=h.ord;have HN:Hid (DkF d):=hf;have hsum:=hf.sum;unfold dkN at hsum;have H1:=zf0 d.sa d.pa d.sc d.pc B d.ss d.ps _ h0.raw.o hf.raw;have HD0:Hid (DkO (w.alloc (Obj.cells #[.slice d.sa d.ss.length d.sc,.slice d.pa d.ps.length d.pc,.int .i64 d.E,.int .i64 d.O,.slice d.ma d.ms.length d.mc,.slice d.va d.vs.length d.vc,.slice d.ca d.cs.length d.cc,.int .i64 d.F,.int .i64 d.G,.slice d.oa d.os.length d.oc] 48)) B B1 B2 B3 B4 Z d):=h0
 clear h h0 hf hw hZ
 go_enter Tryz.func10,Tryz.ntmps10
 go_wp2_with fail
 generalize (w.alloc (Obj.cells #[.slice d.sa d.ss.length d.sc,.slice d.pa d.ps.length d.pc,.int .i64 d.E,.int .i64 d.O,.slice d.ma d.ms.length d.mc,.slice d.va d.vs.length d.vc,.slice d.ca d.cs.length d.cc,.int .i64 d.F,.int .i64 d.G,.slice d.oa d.os.length d.oc] 48))=W0 at *;refine H1.mono ?_;clear H1;rintro e w1 ⟨rfl,-,ho1⟩;have hT1:∀ k,z3j (.slice d.sa d.ss.length d.sc) (.slice d.pa d.ps.length d.pc) d.ss d.ps k->B<=k/\k<B1:=fun k hk=>⟨(HD0.out.raw.o.inside k hk).1,HD0.out.raw.r k hk⟩
 have hx1:=hx0.only ho1 (fun hk=>by have:=hT1 _ hk;have:=HO0.out.2.2;omega)
 have HO1:Hid (Only (fun b=>B<=b/\b<Z) w w1/\Z<=w1.heap.size/\Z<=w.heap.size):=⟨HO0.out.1.trans (ho1.mono (fun k _ hk=>by have:=hT1 k hk;omega)),Nat.le_trans HO0.out.2.1 ho1.size,HO0.out.2.2⟩
 have HD1:Hid (MinP w1 B1 B2 d.ma d.mc d.ms/\MinP w1 B2 B3 d.va d.vc d.vs/\MinI w1 B3 B4 d.ca d.cc d.cs/\CopV w1 B4 Z (.slice d.oa d.os.length d.oc) d.os d.os):=by
  have hz:=HO0.out.2.1;exact ⟨z1b (lo:=B1) (hi:=Z) (by omega) (by omega) _ _ _ HD0.out.map ho1 (fun k h1 h2 hk=>by have:=hT1 k hk;omega) hz,z1b (lo:=B1) (hi:=Z) (by omega) (by omega) _ _ _ HD0.out.sav ho1 (fun k h1 h2 hk=>by have:=hT1 k hk;omega) hz,Stab.minI (lo:=B1) (hi:=Z) (by omega) (by omega) _ _ _ HD0.out.chn ho1 (fun k h1 h2 hk=>by have:=hT1 k hk;omega) hz,CopV.stab (lo:=B1) (hi:=Z) (by omega) (by omega) _ _ _ HD0.out.opn ho1 (fun k h1 h2 hk=>by have:=hT1 k hk;omega) hz⟩
 have hk1:0<=mkN d.ss d.ps/\mkN d.ss d.ps<=2097152:=by unfold mkN;omega
 have HK1:Hid (mkN d.ss d.ps=1+zb d.ss+zb d.ps+d.ps.length):=rfl;generalize mkN d.ss d.ps=k1 at *;clear ho1 hT1 hx0 HO0 HD0;obtain ⟨x0,x1,x2,x3,x4,x5,x6,x7,x8,x9,xl⟩:=id hx1;have H2:=z6n d.ma B1 B2 d.mc d.ms k1 w1 HD1.out.1 (by have:=HO1.out.2.1;omega) HN.out.ms hk1.1 (by omega)
 go_wp2_with fail
 clear x0 x1 x2 x3 x4 x5 x6 x7 x8 x9 xl;refine H2.mono ?_;clear H2;rintro e w2 ⟨rfl,hm2,ho2⟩;have hT2:∀ k,zg d.ma k->B1<=k/\k<B2:=fun k hk=>hm2.row hk
 have hx2:=hx1.only ho2 (fun hk=>by have:=hT2 _ hk;have:=HO1.out.2.2;omega)
 have HO2:Hid (Only (fun b=>B<=b/\b<Z) w w2/\Z<=w2.heap.size/\Z<=w.heap.size):=⟨HO1.out.1.trans (ho2.mono (fun k _ hk=>by have:=hT2 k hk;omega)),Nat.le_trans HO1.out.2.1 ho2.size,HO1.out.2.2⟩
 have HD2:Hid (MinP w2 B2 B3 d.va d.vc d.vs/\MinI w2 B3 B4 d.ca d.cc d.cs/\CopV w2 B4 Z (.slice d.oa d.os.length d.oc) d.os d.os):=by
  have hz:=HO1.out.2.1;exact ⟨z1b (lo:=B2) (hi:=Z) (by omega) (by omega) _ _ _ HD1.out.2.1 ho2 (fun k h1 h2 hk=>by have:=hT2 k hk;omega) hz,Stab.minI (lo:=B2) (hi:=Z) (by omega) (by omega) _ _ _ HD1.out.2.2.1 ho2 (fun k h1 h2 hk=>by have:=hT2 k hk;omega) hz,CopV.stab (lo:=B2) (hi:=Z) (by omega) (by omega) _ _ _ HD1.out.2.2.2 ho2 (fun k h1 h2 hk=>by have:=hT2 k hk;omega) hz⟩
 obtain ⟨k2,hk2⟩:∃ k2:Int,k2=k1+(d.ms.length*2:Nat):=⟨_,rfl⟩;rw [<-hk2];have hk2b:0<=k2/\k2<=4194304:=by have:=HK1.out;omega
 have HK2:Hid (k2=1+zb d.ss+zb d.ps+d.ps.length+2*(d.ms.length:Int)):=by have:=HK1.out;exact (by omega:k2=1+zb d.ss+zb d.ps+d.ps.length+2*(d.ms.length:Int))
 clear ho2 hT2 hm2 hx1 HO1 HD1 hk1 hk2 HK1;obtain ⟨x0,x1,x2,x3,x4,x5,x6,x7,x8,x9,xl⟩:=id hx2;have H3:=z6n d.va B2 B3 d.vc d.vs k2 w2 HD2.out.1 (by have:=HO2.out.2.1;omega) HN.out.vs hk2b.1 hk2b.2
 go_wp2_with fail
 clear x0 x1 x2 x3 x4 x5 x6 x7 x8 x9 xl;refine H3.mono ?_;clear H3;rintro e w3 ⟨rfl,hm3,ho3⟩;have hT3:∀ k,zg d.va k->B2<=k/\k<B3:=fun k hk=>hm3.row hk
 have hx3:=hx2.only ho3 (fun hk=>by have:=hT3 _ hk;have:=HO2.out.2.2;omega)
 have HO3:Hid (Only (fun b=>B<=b/\b<Z) w w3/\Z<=w3.heap.size/\Z<=w.heap.size):=⟨HO2.out.1.trans (ho3.mono (fun k _ hk=>by have:=hT3 k hk;omega)),Nat.le_trans HO2.out.2.1 ho3.size,HO2.out.2.2⟩
 have HD3:Hid (MinI w3 B3 B4 d.ca d.cc d.cs/\CopV w3 B4 Z (.slice d.oa d.os.length d.oc) d.os d.os):=by
  have hz:=HO2.out.2.1;exact ⟨Stab.minI (lo:=B3) (hi:=Z) (by omega) (by omega) _ _ _ HD2.out.2.1 ho3 (fun k h1 h2 hk=>by have:=hT3 k hk;omega) hz,CopV.stab (lo:=B3) (hi:=Z) (by omega) (by omega) _ _ _ HD2.out.2.2 ho3 (fun k h1 h2 hk=>by have:=hT3 k hk;omega) hz⟩
 obtain ⟨k3,hk3⟩:∃ k3:Int,k3=k2+(d.vs.length*2:Nat):=⟨_,rfl⟩;rw [<-hk3];have HK3:Hid (k3=1+zb d.ss+zb d.ps+d.ps.length+2*(d.ms.length:Int)+2*(d.vs.length:Int)):=by have:=HK2.out;exact (by omega:k3=1+zb d.ss+zb d.ps+d.ps.length+2*(d.ms.length:Int)+2*(d.vs.length:Int))
 have hk3b:0<=k3/\k3<=4194304:=by have:=HK3.out;omega
 clear ho3 hT3 hm3 hx2 HO2 HD2 hk2b HK2 hk3;obtain ⟨x0,x1,x2,x3,x4,x5,x6,x7,x8,x9,xl⟩:=id hx3;have H4:=zc2 d.ca B3 B4 d.cc d.cs k3 w3 HD3.out.1 (by have:=HN.out.cs;omega) hk3b.1 hk3b.2
 go_wp2_with fail
 clear x0 x1 x2 x3 x4 x5 x6 x7 x8 x9 xl;refine H4.mono ?_;clear H4;rintro e w4 ⟨rfl,hm4,ho4⟩;have hT4:∀ k,zg d.ca k->B3<=k/\k<B4:=fun k hk=>hm4.rowT hk
 have hx4:=hx3.only ho4 (fun hk=>by have:=hT4 _ hk;have:=HO3.out.2.2;omega)
 have HO4:Hid (Only (fun b=>B<=b/\b<Z) w w4/\Z<=w4.heap.size/\Z<=w.heap.size):=⟨HO3.out.1.trans (ho4.mono (fun k _ hk=>by have:=hT4 k hk;omega)),Nat.le_trans HO3.out.2.1 ho4.size,HO3.out.2.2⟩
 have HD4:Hid (CopV w4 B4 Z (.slice d.oa d.os.length d.oc) d.os d.os/\True):=by
  have hz:=HO3.out.2.1;exact ⟨CopV.stab (lo:=B4) (hi:=Z) (by omega) (by omega) _ _ _ HD3.out.2 ho4 (fun k h1 h2 hk=>by have:=hT4 k hk;omega) hz,trivial⟩
 obtain ⟨k4,hk4⟩:∃ k4:Int,k4=k3+d.cs.length:=⟨_,rfl⟩;rw [<-hk4];have HK4:Hid (k4=1+zb d.ss+zb d.ps+d.ps.length+2*(d.ms.length:Int)+2*(d.vs.length:Int)+d.cs.length):=by have:=HK3.out;exact (by omega:k4=1+zb d.ss+zb d.ps+d.ps.length+2*(d.ms.length:Int)+2*(d.vs.length:Int)+d.cs.length)
 have hk4b:0<=k4:=by have:=HK4.out;omega
 have hk4c:d.os.length=0\/k4+d.os.length+zb d.os<=2097152:=by have:=HK4.out;omega
 clear ho4 hT4 hm4 hx3 HO3 HD3 hk3b HK3 hk4;obtain ⟨x0,x1,x2,x3,x4,x5,x6,x7,x8,x9,xl⟩:=id hx4;have H5:=zbe d.F d.G d.oa d.oc B4 d.os k4 w4 HD4.out.1.cop.row HD4.out.1.cop.deep HN.out.opn.sum hk4b hk4c;go_wp2_with fail
 clear x0 x1 x2 x3 x4 x5 x6 x7 x8 x9 xl;refine H5.mono ?_;clear H5;rintro e w5 ⟨rfl,ho5⟩;have hT5:∀ k,((Value.slice d.oa d.os.length d.oc).ownBlock=some k\/∃ s ∈ d.os,zg s.a k)->B4<=k/\k<Z:=fun k hk=>by
  rcases hk with hk | ⟨s,hs,hk⟩
  ·exact ⟨(HD4.out.1.cop.row.blk hk).1,HD4.out.1.r k hk⟩
  ·exact ⟨((HD4.out.1.cop.deep.mine s hs).rowE hk).1,HD4.out.1.d s hs k hk⟩
 have HF:Hid (Only (fun b=>B<=b/\b<Z) w w5):=HO4.out.1.trans (ho5.mono (fun k _ hk=>by have:=hT5 k hk;omega))
 obtain ⟨k5,hk5⟩:∃ k5:Int,k5=k4+(zb d.os:Nat)+(d.os.length:Nat):=⟨_,rfl⟩;rw [<-hk5];have hk5b:0<=k5/\k5<=4194304:=by have:=HK4.out;have:=HN.out.sum;unfold dkN at this;omega
 clear ho5 hT5 HO4 HD4 hk5 hk4c hk4b HK4 hx4;go_wp2;go_ret;exact ⟨⟨k5,rfl,hk5b⟩,HF.out⟩
theorem Dk10.stab {lo hi b:Nat} {d:DkV} (h1:lo<=b) (h2:b<hi):Stab lo hi (fun W=>Dk10 W b d):=fun T W W' hp ho ht hl=>hp.only ho (ht b h1 h2)
theorem z4p (a:Option Addr) (cap n:Nat) (k:Int) (w:World) (h:Byt w a (z0a k n)) (hn:n<=2097152) (h0:0<=k) (h1:k<=2097152) :
  Calls Tryz.prog 12 #[.slice a n cap,.int .i64 k] w fun e w'=>e=.returned (.int .i64 (k+n))/\w'=w:=by
 have hl:=z0r k n;have HB:Hid (Byt w a (z0a k n)):=h;clear h
 go_enter Tryz.func12,Tryz.ntmps12
 go_wp2
 go_loop [1,5] (fun q i=>∃ j:Nat,j<=n/\i=.int .i64 j/\q=.int .i64 (k+j)) (fun _ i=>n-(intOf i).toNat)
 case atStart=>exact ⟨0,Nat.zero_le _,rfl,by simp⟩
 case round=>
  obtain ⟨j,hj,rfl,rfl⟩:=hrel
  by_cases hlt:j<n
  ·obtain ⟨b,off,rfl,hbl,hc⟩:=HB.out.len_pos j (by rw [hl];exact hlt)
   have hs:=hc j (by rw [hl];exact hlt)
   rw [zi1 k n j hlt] at hs;have hq:((k+j) % 256 != (k+j) % 256)=false:=by simp
   clear hc hl;go_wp2;go_round
   case rel=>exact ⟨j+1,by omega,by go_num,by go_num⟩
   case measure=>simp [intOf];omega
  ·have hjn:j=n:=by omega
   subst hjn;go_wp2;go_ret;exact ⟨rfl,rfl⟩
end Go.Proofs.YtkomjdjfknpinaaGreatDoor
