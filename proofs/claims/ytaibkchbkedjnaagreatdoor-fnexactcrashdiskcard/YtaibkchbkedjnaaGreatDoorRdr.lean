/- Lemmas on the way. -/
import Derived.Test.YtaibkchbkedjnaaGreatDoorOps
import Derived.Deep.RegionWith
import Derived.Test.YtaibkchbkedjnaaGreatDoorItEq
import Derived.Laws.CopyOwn
set_option maxRecDepth 20000
set_option maxHeartbeats 16000000
namespace Go.Proofs.YtaibkchbkedjnaaGreatDoor
open Go.RowKit
set_option linter.unusedVariables false
def openY (zs:List Int) (L b:Nat) (t:Nat):List Int:=if b=0 then zs.take L else zs.set L ((t-2 ^ b:Nat):Int)
theorem mask_low (t j:Nat) (hj:j<8) (h1:2 ^ j≤t) (h2:t<2 ^ (j+1)):bits .and .u8 (t:Int) ((2 ^ j-1) % 256)=((t-2 ^ j:Nat):Int):=by
 have hp:2 ^ j≤2 ^ 7:=Nat.pow_le_pow_right (by omega) (by omega)
 have hp0:0<2 ^ j:=Nat.pow_pos (by omega)
 rw [Nat.pow_succ] at h2
 have e:(((2:Int) ^ j-1) % 256)=((2 ^ j-1:Nat):Int):=by
  have:((2:Int) ^ j)=((2 ^ j:Nat):Int):=by simp
  rw [this]
  omega
 rw [e,u8_and_nat t (2 ^ j-1) (by omega) (by omega),Nat.and_two_pow_sub_one_eq_mod]
 congr 1
 rw [Nat.mod_eq_sub_mod h1,Nat.mod_eq_of_lt (by omega)]
theorem and1_zero :bits .and .u8 0 1=0:=by decide
theorem and1_one :bits .and .u8 1 1=1:=by decide
theorem keepF {B:Nat} {w w':World} (h:Below B w w') {b o:Nat} (hb:b<B) (hf:w.frozen? ⟨b,o,none⟩=false):w'.frozen? ⟨b,o,none⟩=false:=(h.frozen (p:=⟨b,o,none⟩) hb).trans hf
theorem keepAF {w:World} (ob:Obj) {b o:Nat} (hb:b<w.heap.size) (hf:w.frozen? ⟨b,o,none⟩=false):(w.alloc ob).frozen? ⟨b,o,none⟩=false:=keepF ((Below.refl w.heap.size w).alloc nl ob) hb hf
theorem after2 {w w1:World} {x0 x1:Value} {T:TypeId} {o2:Obj} {row:Option Nat} (h:((w.alloc (.cells #[x0,x1] T)).alloc o2).grownBy w1 row) (hr:row=some (w.heap.size+1)) :
  w1.cell? ⟨w.heap.size,0,none⟩=some x0∧w1.cell? ⟨w.heap.size,1,none⟩=some x1∧w1.frozen? ⟨w.heap.size,0,none⟩=false∧w1.frozen? ⟨w.heap.size,1,none⟩=false∧Below w.heap.size w w1∧w.heap.size+1<w1.heap.size:=by
 subst hr
 have hb:Below (w.heap.size+1) ((w.alloc (.cells #[x0,x1] T)).alloc o2) w1:=
  ⟨h.os,h.tape,h.output,h.size,fun k hk=>h.block k (by simp;omega) (by simp;omega)⟩
 have f:∀ j,((w.alloc (.cells #[x0,x1] T)).alloc o2).frozen? ⟨w.heap.size,j,none⟩=false:=fun j=>
  (((Below.refl (w.alloc (.cells #[x0,x1] T)).heap.size _).alloc nl o2).frozen (p:=⟨w.heap.size,j,none⟩) (by simp)).trans (by simp)
 have hs:=h.size
 simp at hs
 refine ⟨keep hb (by omega) (keepA _ (by simp) (by simp)),keep hb (by omega) (keepA _ (by simp) (by simp)),(hb.frozen (p:=⟨w.heap.size,0,none⟩) (by simp)).trans (f 0),(hb.frozen (p:=⟨w.heap.size,1,none⟩) (by simp)).trans (f 1),?_,by omega⟩
 exact (((Below.refl w.heap.size w).alloc nl _).alloc (by simp) _).trans (hb.mono (by omega))
theorem Mine.setC {w:World} {B U:Nat} {a:Option Addr} {cap:Nat} {zs:List Int} (h:Mine w B U a cap zs) {p:Addr} (hp:p.block<B) (u:Value):Mine (w.setCell p u) B U a cap zs:=
 h.only (Only.setCell (Only.refl (fun b=>b=p.block) w) (.inl rfl) u) (fun b h1 _=>by omega)
theorem openY_len (zs:List Int) (L b t:Nat) (hL:zs.length=L+1):(openY zs L b t).length=(8*L+b+7) / 8∨8≤b:=by
 by_cases hb:b=0
 ·left
  rw [openY,if_pos hb,List.length_take,hL,hb]
  omega
 ·by_cases h8:b<8
  ·left
   rw [openY,if_neg hb,List.length_set,hL]
   omega
  ·right;omega
theorem okB_open (zs:List Int) (L b t:Nat) (hL:zs.length=L+1) (h1:2 ^ b≤t) (h2:t<2 ^ (b+1)) (hb:b<8) :
  okB ((8*L+b:Nat):Int) (openY zs L b t)=decide (8*L+b≤4096):=by
 have hlen:(openY zs L b t).length=(8*L+b+7) / 8:=(openY_len zs L b t hL).resolve_right (by omega)
 by_cases hn:8*L+b≤4096
 ·rw [decide_eq_true hn]
  by_cases hb0:b=0
  ·subst hb0
   exact okB_full (by omega) (by omega) (by rw [hlen];omega) (by omega)
  ·rw [okB_last (by omega) (by omega) (by rw [hlen];omega) (by omega),hlen]
   rw [show (8*L+b+7) / 8-1=L from by omega,show (((8*L+b:Nat):Int) % 8).toNat=b from by omega]
   have hg:(openY zs L b t).getD L 0=((t-2 ^ b:Nat):Int):=by
    rw [openY,if_neg hb0]
    simp [hL]
   rw [hg]
   have hz:(t-2 ^ b) / 2 ^ b=0:=by
    rw [Nat.pow_succ] at h2
    exact Nat.div_eq_of_lt (by omega)
   have e:(((t-2 ^ b:Nat):Int) / 2 ^ b)=(((t-2 ^ b) / 2 ^ b:Nat):Int):=by
    have:((2:Int) ^ b)=((2 ^ b:Nat):Int):=by simp
    rw [this];rfl
   rw [e,hz]
   rfl
 ·rw [decide_eq_false hn]
  exact okB_big (by omega)
theorem l1open_yes (a:Option Addr) (cap:Nat) (zs:List Int) (L b t:Nat) (w:World) (hb:Byt w a zs) (hL:zs.length=L+1) (hcap:L+1≤cap) (hl:L≤1048576) (ht:zs.getD L 0=(t:Int)) (h1:2 ^ b≤t) (h2:t<2 ^ (b+1)) (hb8:b<8) :
  Calls Tryz.prog 117 #[.slice a (L+1) cap] w fun e w'=>∃ a' cp,e=.returned (.tuple #[.agg #[.slice a' (openY zs L b t).length cp,.int .i64 ((8*L+b:Nat):Int)],.bool (okB ((8*L+b:Nat):Int) (openY zs L b t))]) ∧
   Mine w' w.heap.size w'.heap.size a' cp (openY zs L b t)∧Below w.heap.size w w':=by
 obtain ⟨i0,hi,hz0,hz1,hz2⟩:=info_parts Tryz.infoU8
 obtain ⟨ab,off,rfl,hbl,hc⟩:=hb.2 (by omega)
 have hr:=getD_rng hb.1 L
 have ht1:1≤t:=Nat.le_trans (Nat.pow_pos (by omega)) h1
 have hcL:=hc L (by omega)
 rw [ht] at hcL hr
 have hne:((t:Int) == 0)=false:=by simp;omega
 have hlen0:(((L:Int)+1) == 0)=false:=by simp;omega
 have HT:Hid (zs.getD L 0=(t:Int)):=ht
 have HL:Hid (zs.length=L+1):=hL
 have HC:Hid (∀ i,i<zs.length→w.cell? ⟨ab,off+i,none⟩=some (.int .u8 (zs.getD i 0))):=hc
 have H1:Hid (2 ^ b≤t):=h1
 have H2:Hid (t<2 ^ (b+1)):=h2
 have hLp:(((L+1:Nat):Int))=(L:Int)+1:=by omega
 clear hc ht hL h1 h2
 go_enter Tryz.func117,Tryz.ntmps117
 go_wp2
 go_loop [4] (fun i=>∃ j:Nat,b≤j∧j≤7∧i=.int .i64 ((8*L+j:Nat):Int)) (fun i=>(intOf i).toNat)
 case atStart=>exact ⟨7,by omega,Nat.le_refl _,congrArg (Value.int .i64) (by omega)⟩
 case round=>
  obtain ⟨j,hbj,hj7,rfl⟩:=hrel
  obtain ⟨q,hq⟩:∃ q,q=8*L+j:=⟨_,rfl⟩
  have hqL:q / 8=L:=by omega
  have hqj:q % 8=j:=by omega
  have hq1:q / 8<L+1:=by omega
  have hq4:q≤8388616:=by omega
  have hcq:w.cell? ⟨ab,off+q / 8,none⟩=some (.int .u8 (t:Int)):=by rw [hqL];exact hcL
  have HQ:Hid (q=8*L+j):=hq
  rw [←hq]
  clear hq hqL hcL
  by_cases hlt:b<j
  ·have hdiv:t / 2 ^ (q % 8)=0:=by
    rw [hqj]
    refine Nat.div_eq_of_lt (Nat.lt_of_lt_of_le H2.out (Nat.pow_le_pow_right (by omega) (by omega)))
   have hdz:(t:Int) / 2 ^ (q % 8)=0:=by
    have e:(t:Int) / 2 ^ (q % 8)=((t / 2 ^ (q % 8):Nat):Int):=by simp
    rw [e,hdiv];rfl
   have ha:=and1_zero
   have hz:((0:Int) == 0)=true:=rfl
   clear hdiv hqj
   go_wp2
   go_round
   case rel=>exact ⟨j-1,by omega,by omega,congrArg (Value.int .i64) (by have:=HQ.out;omega)⟩
   case measure=>simp [intOf];have:=HQ.out;omega
  ·have hjb:j=b:=by omega
   subst hjb
   have hdiv:t / 2 ^ (q % 8)=1:=by
    rw [hqj]
    have h1:=H1.out
    have h2:=H2.out
    rw [Nat.pow_succ] at h2
    exact Nat.div_eq_of_lt_le (by omega) (by omega)
   have hdz:(t:Int) / 2 ^ (q % 8)=1:=by
    have e:(t:Int) / 2 ^ (q % 8)=((t / 2 ^ (q % 8):Nat):Int):=by simp
    rw [e,hdiv];rfl
   have ha:=and1_one
   have hz:((1:Int) == 0)=false:=rfl
   have HQJ:Hid (q % 8=j):=hqj
   clear hdiv hqj
   have hown0:∀ o1:Obj,((w.alloc o1).alloc (Obj.cells #[] 5)).ownsRow (w.heap.size+1) 5 1 (.slice (some ⟨w.heap.size+1,0,none⟩) 0 0) 0 []:=fun o1=>
    ⟨rfl,.inr ⟨_,0,#[],rfl,Nat.le_refl _,by have:=heap_alloc_new (w.alloc o1) (Obj.cells #[] 5);simpa using this,Nat.le_refl _,by simp,rfl,rfl⟩⟩
   by_cases hj0:j=0
   ·subst hj0
    have hm8:(q+7) / 8=L:=by have:=HQ.out;omega
    have hm8':((q:Int)+7) / 8=(L:Int):=by have:=HQ.out;omega
    have hj8:(q:Int) % 8≤0:=by have:=HQJ.out;omega
    have hnews:∀ o1 o2:Obj,∀ i u,((zs.take L).map (Value.int .u8))[i]?=some u→((w.alloc o1).alloc o2).cell? ((⟨ab,off,none⟩:Addr).add i)=some u:=by
     intro o1 o2
     refine news_of (fun i hi=>?_)
     have hiL:i<L:=by have:=HL.out;simp at hi;omega
     rw [show (zs.take L).getD i 0=zs.getD i 0 from by simp [hiL]]
     exact keepA _ (by simp;omega) (keepA _ hbl (HC.out i (by have:=HL.out;omega)))
    by_cases hL0:0<L
    ·have hll:(zs.take L).length=L:=by rw [List.length_take,HL.out];omega
     have HLL:Hid ((zs.take L).length=L):=hll
     clear hll
     go_wp2_with (at_builtin;(refine wpList_append_lies _ rfl (.tmp 35) (.tmp 40) 36 rfl (w.heap.size+1) 5 i0 (.int .u8 0) 1 1 Tryz.underlying36 hi hz0 hz1 hz2 rfl (by decide) (.slice (some ⟨w.heap.size+1,0,none⟩) 0 0) 0 [] rfl (by exact hown0 _) ⟨ab,off,none⟩ L cap ((zs.take L).map (Value.int .u8)) rfl (by rw [List.length_map,HLL.out];simp) (by exact hnews _ _) (oneCells _) hL0 (by unfold maxLen;omega) (by omega) (by simp) _ rfl ?_);intro g cp w1 hown hgrow hat hlt1)
     obtain ⟨r0,r1,f0,f1,hbb,hsz1⟩:=after2 hgrow rfl
     have ho:Own w1 (w.heap.size+1) g cp (zs.take L):=⟨by rw [HLL.out];simpa using hown,fun z hz=>hb.1 z (List.mem_of_mem_take hz)⟩
     clear hown hgrow hat hcq hdz
     have hyl:(openY zs L 0 t).length=L:=by rw [openY,if_pos rfl,List.length_take,HL.out];omega
     have hqq:((8*L+0:Nat):Int)=(q:Int):=by have:=HQ.out;omega
     have ho':Own w1 (w.heap.size+1) g cp (openY zs L 0 t):=by rw [openY,if_pos rfl];exact ho
     have hyl':(openY zs L 0 t).length≤1048577:=by rw [hyl];omega
     have HYL:Hid ((openY zs L 0 t).length=L):=hyl
     clear hyl
     generalize hYS:openY zs L 0 t=ys at *
     have HYS:Hid (openY zs L 0 t=ys):=hYS
     clear hYS
     have HO2:Hid (Own w1 (w.heap.size+1) g cp ys):=ho'
     have HB2:Hid (Below w.heap.size w w1):=hbb
     have hlt:=ho'.lt
     clear ho ho' hbb
     rw [show (Value.slice (some ⟨g,0,none⟩) L cp)=.slice (some ⟨g,0,none⟩) ys.length cp from by rw [HYL.out]]
     go_region_with (go_at_call 155;refine (specOk_any _ _ ys q _ (by exact (HO2.out.alloc _).byt) (by omega)).mono ?_;rintro e w5 ⟨rfl,hb5'⟩;have hb5:=Below.drewS hb5';have b0:w5.cell? ⟨w1.heap.size,0,none⟩=some (.slice (some ⟨g,0,none⟩) ys.length cp):=keep hb5 (by simp) (by simp);have b1:w5.cell? ⟨w1.heap.size,1,none⟩=some (.int .i64 q):=keep hb5 (by simp) (by simp);have x0:=keep hb5 (by simp;omega) (keepA _ (by omega) r0);have x1:=keep hb5 (by simp;omega) (keepA _ (by omega) r1);have y0:=keepF hb5 (by simp;omega) (keepAF _ (by omega) f0);have y1:=keepF hb5 (by simp;omega) (keepAF _ (by omega) f1))
     all_goals
      have hbb5:Below w.heap.size w w5:=(HB2.out.alloc (by omega) _).trans (hb5.mono (by show w.heap.size≤(w1.heap.push _).size;simp;omega))
      have ho5:Own w5 (w.heap.size+1) g cp ys:=(HO2.out.alloc _).below hb5 nl
      have HO5:Hid (Own w5 (w.heap.size+1) g cp ys):=ho5
      have HBB5:Hid (Below w.heap.size w w5):=hbb5
      have hlt5:=ho5.lt
      have HQQ:Hid (((8*L+0:Nat):Int)=(q:Int)):=hqq
      clear hb5 hb5' hbb5 ho5 hqq
      go_wp2
      refine bodyPost_ret (v:=.tuple #[.agg #[.slice (some ⟨g,0,none⟩) ys.length cp,.int .i64 (q:Int)],.bool (okB (q:Int) ys)]) (by simp [results,Tryz.results117,go_sem,x0,x1]) rfl ⟨some ⟨g,0,none⟩,cp,by rw [HYS.out,HQQ.out],?_,?_⟩
      ·rw [HYS.out]
       have hO3:Only (fun b=>b=w.heap.size) w5 ((w5.setCell ⟨w.heap.size,0,none⟩ (.slice (some ⟨g,0,none⟩) ys.length cp)).setCell ⟨w.heap.size,1,none⟩ (.int .i64 (q:Int))):=
        Only.setCell (Only.setCell (Only.refl (fun b=>b=w.heap.size) w5) (p:=⟨w.heap.size,0,none⟩) (.inl rfl) _) (p:=⟨w.heap.size,1,none⟩) (.inl rfl) _
       exact ((HO5.out.mine.only hO3 (fun b h1 _=>by omega)).mono (by omega) (by simp [World.setCell]))
      ·exact ((HBB5.out.setCell (by simp) _).setCell (by simp) _)
    ·have hL00:L=0:=by omega
     subst hL00
     go_wp2_with fail
     obtain ⟨w1,hw1⟩:∃ x,x=(w.alloc (Obj.cells #[.slice none 0 0,.int .i64 0] 155)).alloc (Obj.cells #[] 5):=⟨_,rfl⟩
     obtain ⟨g,hg⟩:∃ x,x=w.heap.size+1:=⟨_,rfl⟩
     obtain ⟨cp,hcp⟩:∃ x,x=0:=⟨_,rfl⟩
     have hz:w.heap.size+1+1=w1.heap.size:=by rw [hw1];simp
     have ho:Own w1 (w.heap.size+1) g cp (zs.take 0):=by
      rw [hw1,hg,hcp]
      exact ⟨hown0 _,by simp⟩
     have r0:w1.cell? ⟨w.heap.size,0,none⟩=some (.slice none 0 0):=by rw [hw1];exact keepA _ (by simp) (by simp)
     have r1:w1.cell? ⟨w.heap.size,1,none⟩=some (.int .i64 0):=by rw [hw1];exact keepA _ (by simp) (by simp)
     have f0:w1.frozen? ⟨w.heap.size,0,none⟩=false:=by rw [hw1];exact keepAF _ (by simp) (by simp)
     have f1:w1.frozen? ⟨w.heap.size,1,none⟩=false:=by rw [hw1];exact keepAF _ (by simp) (by simp)
     have hbb:Below w.heap.size w w1:=by rw [hw1];exact ((Below.refl w.heap.size w).alloc nl _).alloc (by simp) _
     have hsz1:w.heap.size+1<w1.heap.size:=by omega
     rw [hz,←hw1]
     rw [show (Value.slice (some ⟨w.heap.size+1,0,none⟩) 0 0)=.slice (some ⟨g,0,none⟩) 0 cp from by rw [hg,hcp]]
     clear hw1 hg hcp hz hcq hdz
     have hyl:(openY zs 0 0 t).length=0:=by rw [openY,if_pos rfl,List.length_take,HL.out];omega
     have hqq:((8*0+0:Nat):Int)=(q:Int):=by have:=HQ.out;omega
     have ho':Own w1 (w.heap.size+1) g cp (openY zs 0 0 t):=by rw [openY,if_pos rfl];exact ho
     have hyl':(openY zs 0 0 t).length≤1048577:=by rw [hyl];omega
     have HYL:Hid ((openY zs 0 0 t).length=0):=hyl
     clear hyl
     generalize hYS:openY zs 0 0 t=ys at *
     have HYS:Hid (openY zs 0 0 t=ys):=hYS
     clear hYS
     have HO2:Hid (Own w1 (w.heap.size+1) g cp ys):=ho'
     have HB2:Hid (Below w.heap.size w w1):=hbb
     have hlt:=ho'.lt
     clear ho ho' hbb
     rw [show (Value.slice (some ⟨g,0,none⟩) 0 cp)=.slice (some ⟨g,0,none⟩) ys.length cp from by rw [HYL.out]]
     go_region_with (go_at_call 155;refine (specOk_any _ _ ys q _ (by exact (HO2.out.alloc _).byt) (by omega)).mono ?_;rintro e w5 ⟨rfl,hb5'⟩;have hb5:=Below.drewS hb5';have b0:w5.cell? ⟨w1.heap.size,0,none⟩=some (.slice (some ⟨g,0,none⟩) ys.length cp):=keep hb5 (by simp) (by simp);have b1:w5.cell? ⟨w1.heap.size,1,none⟩=some (.int .i64 q):=keep hb5 (by simp) (by simp);have x0:=keep hb5 (by simp;omega) (keepA _ (by omega) r0);have x1:=keep hb5 (by simp;omega) (keepA _ (by omega) r1);have y0:=keepF hb5 (by simp;omega) (keepAF _ (by omega) f0);have y1:=keepF hb5 (by simp;omega) (keepAF _ (by omega) f1))
     all_goals
      have hbb5:Below w.heap.size w w5:=(HB2.out.alloc (by omega) _).trans (hb5.mono (by show w.heap.size≤(w1.heap.push _).size;simp;omega))
      have ho5:Own w5 (w.heap.size+1) g cp ys:=(HO2.out.alloc _).below hb5 nl
      have HO5:Hid (Own w5 (w.heap.size+1) g cp ys):=ho5
      have HBB5:Hid (Below w.heap.size w w5):=hbb5
      have hlt5:=ho5.lt
      have HQQ:Hid (((8*0+0:Nat):Int)=(q:Int)):=hqq
      clear hb5 hb5' hbb5 ho5 hqq
      go_wp2
      refine bodyPost_ret (v:=.tuple #[.agg #[.slice (some ⟨g,0,none⟩) ys.length cp,.int .i64 (q:Int)],.bool (okB (q:Int) ys)]) (by simp [results,Tryz.results117,go_sem,x0,x1]) rfl ⟨some ⟨g,0,none⟩,cp,by rw [HYS.out,HQQ.out],?_,?_⟩
      ·rw [HYS.out]
       have hO3:Only (fun b=>b=w.heap.size) w5 ((w5.setCell ⟨w.heap.size,0,none⟩ (.slice (some ⟨g,0,none⟩) ys.length cp)).setCell ⟨w.heap.size,1,none⟩ (.int .i64 (q:Int))):=
        Only.setCell (Only.setCell (Only.refl (fun b=>b=w.heap.size) w5) (p:=⟨w.heap.size,0,none⟩) (.inl rfl) _) (p:=⟨w.heap.size,1,none⟩) (.inl rfl) _
       exact ((HO5.out.mine.only hO3 (fun b h1 _=>by omega)).mono (by omega) (by simp [World.setCell]))
      ·exact ((HBB5.out.setCell (by simp) _).setCell (by simp) _)
   ·have hm8:(q+7) / 8=L+1:=by have:=HQ.out;omega
    have hm8':((q:Int)+7) / 8=(L:Int)+1:=by have:=HQ.out;omega
    have hnews:∀ o1 o2:Obj,∀ i u,(zs.map (Value.int .u8))[i]?=some u→((w.alloc o1).alloc o2).cell? ((⟨ab,off,none⟩:Addr).add i)=some u:=by
     intro o1 o2
     refine news_of (fun i hi=>?_)
     exact keepA _ (by simp;omega) (keepA _ hbl (HC.out i hi))
    have hj8:(0:Int)<(q:Int) % 8:=by have:=HQJ.out;omega
    go_wp2_with (at_builtin;refine wpList_append_lies _ rfl (.tmp 35) (.tmp 40) 36 rfl (w.heap.size+1) 5 i0 (.int .u8 0) 1 1 Tryz.underlying36 hi hz0 hz1 hz2 rfl (by decide) (.slice (some ⟨w.heap.size+1,0,none⟩) 0 0) 0 [] rfl (by exact hown0 _) ⟨ab,off,none⟩ (L+1) cap (zs.map (Value.int .u8)) rfl (by have:=HL.out;simp [this]) (by exact hnews _ _) (oneCells zs) (by omega) (by unfold maxLen;omega) (by omega) (by simp) _ rfl ?_;intro g cp w1 hown hgrow hat hlt1)
    obtain ⟨r0,r1,f0,f1,hbb,hsz1⟩:=after2 hgrow rfl
    have ho:Own w1 (w.heap.size+1) g cp zs:=⟨by have:=HL.out;rw [this];simpa using hown,hb.1⟩
    have hlt:=ho.lt
    have cg:=ho.cell (q / 8) (by have:=HL.out;omega)
    rw [show q / 8=L from by have:=HQ.out;omega,HT.out,show L=q / 8 from by have:=HQ.out;omega] at cg
    have fg:=ho.frozen (q / 8)
    have HO:Hid (Own w1 (w.heap.size+1) g cp zs):=ho
    have HBB:Hid (Below w.heap.size w w1):=hbb
    have hg1:g≠w1.heap.size:=by omega
    clear hown hgrow hat ho hbb hcq hdz
    have hmask:bits .and .u8 (t:Int) ((2 ^ (q % 8)-1) % 256)=((t-2 ^ j:Nat):Int):=by rw [HQJ.out];exact mask_low t j hb8 H1.out H2.out
    have HMASK:Hid (bits .and .u8 (t:Int) ((2 ^ (q % 8)-1) % 256)=((t-2 ^ j:Nat):Int)):=hmask
    clear hmask
    go_region
    go_wp2_with fail
    rw [HMASK.out]
    have hrng:(0:Int)≤((t-2 ^ j:Nat):Int)∧((t-2 ^ j:Nat):Int)≤255:=by
     generalize 2 ^ j=pj
     omega
    have ho2:=(HO.out.store (q / 8) ((t-2 ^ j:Nat):Int) hrng)
    rw [show q / 8=L from by have:=HQ.out;omega] at ho2
    rw [show q / 8=L from by have:=HQ.out;omega]
    have hY:openY zs L j t=zs.set L ((t-2 ^ j:Nat):Int):=by rw [openY,if_neg hj0]
    rw [←hY] at ho2
    have hyl:(openY zs L j t).length=L+1:=by rw [hY,List.length_set];exact HL.out
    have hbb2:Below w.heap.size w (w1.setCell ⟨g,L,none⟩ (.int .u8 ((t-2 ^ j:Nat):Int))):=HBB.out.setCell (by simp;omega) _
    have hgr:g≠w.heap.size:=by omega
    have r0':=(World.cell?_setCell_other w1 ⟨g,L,none⟩ ⟨w.heap.size,0,none⟩ (.int .u8 ((t-2 ^ j:Nat):Int)) (by simp)).trans r0
    have r1':=(World.cell?_setCell_other w1 ⟨g,L,none⟩ ⟨w.heap.size,1,none⟩ (.int .u8 ((t-2 ^ j:Nat):Int)) (by simp)).trans r1
    have f0':(w1.setCell ⟨g,L,none⟩ (.int .u8 ((t-2 ^ j:Nat):Int))).frozen? ⟨w.heap.size,0,none⟩=false:=by simpa using f0
    have f1':(w1.setCell ⟨g,L,none⟩ (.int .u8 ((t-2 ^ j:Nat):Int))).frozen? ⟨w.heap.size,1,none⟩=false:=by simpa using f1
    have hz2':w1.heap.size=(w1.setCell ⟨g,L,none⟩ (.int .u8 ((t-2 ^ j:Nat):Int))).heap.size:=by simp [World.setCell]
    rw [hz2']
    rw [hz2'] at hsz1
    have hlt2:=ho2.lt
    clear r0 r1 f0 f1 cg fg hz2' HO HBB hlt1 hlt hg1 HMASK hrng hgr
    generalize w1.setCell ⟨g,L,none⟩ (.int .u8 ((t-2 ^ j:Nat):Int))=w2 at *
    have hqq:((8*L+j:Nat):Int)=(q:Int):=by have:=HQ.out;omega
    rw [←hyl]
    have hyl':(openY zs L j t).length≤1048577:=by rw [hyl];omega
    clear hY hyl
    generalize hYS:openY zs L j t=ys at *
    have HYS:Hid (openY zs L j t=ys):=hYS
    clear hYS
    have HO2:Hid (Own w2 (w.heap.size+1) g cp ys):=ho2
    have HB2:Hid (Below w.heap.size w w2):=hbb2
    clear ho2 hbb2
    go_region_with (go_at_call 155;refine (specOk_any _ _ ys q _ (by exact (HO2.out.alloc _).byt) (by omega)).mono ?_;rintro e w5 ⟨rfl,hb5'⟩;have hb5:=Below.drewS hb5';have b0:w5.cell? ⟨w2.heap.size,0,none⟩=some (.slice (some ⟨g,0,none⟩) ys.length cp):=keep hb5 (by simp) (by simp);have b1:w5.cell? ⟨w2.heap.size,1,none⟩=some (.int .i64 q):=keep hb5 (by simp) (by simp);have x0:=keep hb5 (by simp;omega) (keepA _ (by omega) r0');have x1:=keep hb5 (by simp;omega) (keepA _ (by omega) r1');have y0:=keepF hb5 (by simp;omega) (keepAF _ (by omega) f0');have y1:=keepF hb5 (by simp;omega) (keepAF _ (by omega) f1'))
    all_goals
     have hbb5:Below w.heap.size w w5:=(HB2.out.alloc (by omega) _).drew.trans (hb5.mono (by show w.heap.size≤(w2.heap.push _).size;simp;omega))
     have ho5:Own w5 (w.heap.size+1) g cp ys:=((HO2.out.alloc _).drewN 1).below hb5 nl
     have HO5:Hid (Own w5 (w.heap.size+1) g cp ys):=ho5
     have HBB5:Hid (Below w.heap.size w w5):=hbb5
     have hlt5:=ho5.lt
     have HQQ:Hid (((8*L+j:Nat):Int)=(q:Int)):=hqq
     clear hb5 hb5' hbb5 ho5 hqq
     go_wp2
     refine bodyPost_ret (v:=.tuple #[.agg #[.slice (some ⟨g,0,none⟩) ys.length cp,.int .i64 (q:Int)],.bool (okB (q:Int) ys)]) (by simp [results,Tryz.results117,go_sem,x0,x1]) rfl ⟨some ⟨g,0,none⟩,cp,by rw [HYS.out,HQQ.out],?_,?_⟩
     ·rw [HYS.out]
      have hO3:Only (fun b=>b=w.heap.size) w5 ((w5.setCell ⟨w.heap.size,0,none⟩ (.slice (some ⟨g,0,none⟩) ys.length cp)).setCell ⟨w.heap.size,1,none⟩ (.int .i64 (q:Int))):=
       Only.setCell (Only.setCell (Only.refl (fun b=>b=w.heap.size) w5) (p:=⟨w.heap.size,0,none⟩) (.inl rfl) _) (p:=⟨w.heap.size,1,none⟩) (.inl rfl) _
      exact ((HO5.out.mine.only hO3 (fun b h1 _=>by omega)).mono (by omega) (by simp [World.setCell]))
     ·exact ((HBB5.out.setCell (by simp) _).setCell (by simp) _)
theorem l1open_no (a:Option Addr) (cap:Nat) (zs:List Int) (w:World) (hb:Byt w a zs) (hl:zs.length≤1048576) (h:zs=[]∨zs.getD (zs.length-1) 0=0) :
  Calls Tryz.prog 117 #[.slice a zs.length cap] w fun e w'=>e=.returned (.tuple #[.agg #[.slice none 0 0,.int .i64 0],.bool false])∧Below w.heap.size w w':=by
 have hw:Below w.heap.size w (w.alloc (Obj.cells #[.slice none 0 0,.int .i64 0] 155)):=ba
 by_cases hp:0<zs.length
 ·have h0:zs.getD (zs.length-1) 0=0:=by
   rcases h with rfl | h
   ·simp at hp
   ·exact h
  obtain ⟨ab,off,rfl,hbl,hc⟩:=hb.2 hp
  have hcl:=hc (zs.length-1) (by omega)
  rw [h0] at hcl
  have hlen0:((zs.length:Int) == 0)=false:=by rw [beq_eq_false_iff_ne];omega
  have hz:((0:Int) == 0)=true:=rfl
  clear hc h h0
  go_enter Tryz.func117,Tryz.ntmps117
  go_wp2
  exact bodyPost_ret (v:=.tuple #[.agg #[.slice none 0 0,.int .i64 0],.bool false]) (by simp [results,Tryz.results117,go_sem]) rfl ⟨rfl,by repeat (first | exact hw | refine Below.setCell ?_ (by simp) _)⟩
 ·have hz:zs.length=0:=by omega
  have hlen0:((0:Int) == 0)=true:=rfl
  rw [hz]
  clear h hz hp
  go_enter Tryz.func117,Tryz.ntmps117
  go_wp2
  exact bodyPost_ret (v:=.tuple #[.agg #[.slice none 0 0,.int .i64 0],.bool false]) (by simp [results,Tryz.results117,go_sem]) rfl ⟨rfl,by repeat (first | exact hw | refine Below.setCell ?_ (by simp) _)⟩
set_option maxRecDepth 100000 in
theorem len8_any (t b:Nat) (w:World) (h1:2 ^ b≤t) (h2:t<2 ^ (b+1)) (hb:b<8) :
  Calls Tryz.prog 212 #[.int .u8 (t:Int)] w fun e w'=>e=.returned (.int .i64 ((b:Int)+1))∧w'=w:=by
 have h256:t<256:=Nat.lt_of_lt_of_le h2 (Nat.pow_le_pow_right (n:=2) (by omega) (show b+1≤8 by omega))
 have hi:(t:Int)<256:=by omega
 have H1:Hid (2 ^ b≤t):=h1
 have H2:Hid (t<2 ^ (b+1)):=h2
 clear h1 h2
 go_enter Tryz.func212,Tryz.ntmps212
 go_wp2
 go_ret
 refine ⟨ret_int ?_,rfl⟩
 have e:∀ (S:ByteArray) (h:t<S.size),S[t]=S.data.toList.getD t 0:=by
  intro S h
  have h':t<S.data.toList.length:=by simpa using h
  rw [List.getD_eq_getElem?_getD,List.getElem?_eq_getElem h']
  rfl
 rw [e]
 have h1:=H1.out
 have h2:=H2.out
 clear e hi H1 H2
 revert h2 h1
 revert b
 intro b hb
 revert b
 revert h256
 revert t
 decide +kernel
theorem bytesFor_any (n:Int) (w:World) (h0:0≤n) (h1:n≤4103) :
  Calls Tryz.prog 211 #[.int .i64 n] w fun e w'=>e=.returned (.int .i64 ((n+7) / 8))∧w'=w:=by
 go_enter Tryz.func211,Tryz.ntmps211
 go_wp2
 go_ret
 exact ⟨rfl,rfl⟩
theorem andNot_all :∀ t,t<256→∀ b,b<8→2 ^ b≤t→t<2 ^ (b+1)→t &&& (255-2 ^ b)=t-2 ^ b:=by decide +kernel
theorem made_blockO {w:World} {B g n:Nat} (h:w.ownsRow B 5 1 (.slice (some ⟨g,0,none⟩) n n) n (madeCells (Value.int .u8 0).cells (n*1)).toList) :
  w.heap[g]?=some (.cells ((List.replicate n (0:Int)).map (Value.int .u8)).toArray 5 (0,0)):=by
 rcases h.2 with ⟨h',_⟩ | ⟨g',cap',cur,h',hg,hh,h1,h2,h3,h4⟩
 ·simp at h'
 ·simp only [Value.slice.injEq,Option.some.injEq,Addr.mk.injEq,and_true,true_and] at h'
  obtain ⟨rfl,rfl⟩:=h'
  rw [hh,←made_zero,←h4]
  rw [List.take_of_length_le (by simp [h3])]
theorem copy_done {w w1:World} {x0 x1 y0 y1:Value} {T U:TypeId} {M:Nat} {Z:List Int} (hb:Below (w.heap.size+1) (w.alloc (.cells #[x0,x1] T)) w1) (hs:w.heap.size+1<w1.heap.size)
  (hk:w1.heap[w.heap.size+1]?=some (.cells ((List.replicate M (0:Int)).map (Value.int .u8)).toArray 5 (0,0))) (hZ:Z.length=M) (hr:∀ z ∈ Z,0≤z∧z≤255) (hM:M≤1048576) {W:World}
  (hW:(w1.alloc (.cells #[y0,y1] U)).setRow (w.heap.size+1) ((((List.replicate M (0:Int)).map (Value.int .u8)).toArray.toList.take 0++(Z.map (Value.int .u8)++((List.replicate M (0:Int)).map (Value.int .u8)).toArray.toList.drop (0+(Z.map (Value.int .u8)).length))).toArray)=W) :
  Own W (w.heap.size+1) (w.heap.size+1) M Z∧W.cell? ⟨w1.heap.size,0,none⟩=some y0∧W.cell? ⟨w1.heap.size,1,none⟩=some y1∧W.cell? ⟨w.heap.size,0,none⟩=some x0∧W.cell? ⟨w.heap.size,1,none⟩=some x1 ∧
   W.frozen? ⟨w.heap.size,0,none⟩=false∧W.frozen? ⟨w.heap.size,1,none⟩=false∧Below w.heap.size w W∧W.heap.size=w1.heap.size+1:=by
 subst hW
 have hrow:(((List.replicate M (0:Int)).map (Value.int .u8)).toArray.toList.take 0++(Z.map (Value.int .u8)++((List.replicate M (0:Int)).map (Value.int .u8)).toArray.toList.drop (0+(Z.map (Value.int .u8)).length)))=Z.map (Value.int .u8):=by
  simp [hZ]
 rw [hrow]
 have h1:(w1.alloc (.cells #[y0,y1] U)).heap[w.heap.size+1]?=some (.cells ((List.replicate M (0:Int)).map (Value.int .u8)).toArray 5 (0,0)):=by rw [Below.heap_alloc _ _ _ hs];exact hk
 have h2:=setRow_heap _ _ _ (Z.map (Value.int .u8)).toArray _ _ h1
 have ho:Only (fun k=>k=w.heap.size+1) (w1.alloc (.cells #[y0,y1] U)) ((w1.alloc (.cells #[y0,y1] U)).setRow (w.heap.size+1) (Z.map (Value.int .u8)).toArray):=
  ⟨rfl,rfl,rfl,by simp,fun k _ hne=>setRow_other _ _ _ _ hne⟩
 have hbw:Below w.heap.size w (w1.alloc (.cells #[y0,y1] U)):=(((Below.refl w.heap.size w).alloc nl _).trans (hb.mono (by omega))).alloc (by omega) _
 have fz:∀ j,((w1.alloc (.cells #[y0,y1] U)).setRow (w.heap.size+1) (Z.map (Value.int .u8)).toArray).frozen? ⟨w.heap.size,j,none⟩=false:=by
  intro j
  rw [World.frozen?_of_block (a:=⟨w.heap.size,j,none⟩) (ho.block w.heap.size (by simp;omega) (by omega))]
  exact keepAF _ (by omega) (keepF hb (by omega) (by simp))
 refine ⟨⟨⟨by simp,.inr ⟨_,M,_,by rw [hZ],Nat.le_refl _,h2,by omega,by unfold maxLen;omega,by simp [hZ],by rw [Nat.mul_one];exact List.take_of_length_le (by simp)⟩⟩,hr⟩,?_,?_,?_,?_,fz 0,fz 1,?_,by simp⟩
 ·exact ho.cell (by simp) (by omega) (by simp)
 ·exact ho.cell (by simp) (by omega) (by simp)
 ·exact ho.cell (by simp;omega) (by omega) (keepA _ (by omega) (keep hb (by omega) (by simp)))
 ·exact ho.cell (by simp;omega) (by omega) (keepA _ (by omega) (keep hb (by omega) (by simp)))
 ·exact hbw.trans (ho.below (by simp;omega) (fun k hk=>by omega))
set_option maxRecDepth 100000 in
theorem implOpen_no (a:Option Addr) (cap:Nat) (zs:List Int) (w:World) (hb:Byt w a zs) (hl:zs.length≤1048576)
  (h:zs=[]∨zs.getD (zs.length-1) 0=0∨∃ L b t:Nat,zs.length=L+1∧zs.getD L 0=(t:Int)∧2 ^ b≤t∧t<2 ^ (b+1)∧b<8∧4096<8*L+b) :
  Calls Tryz.prog 199 #[.slice a zs.length cap] w fun e w'=>e=.returned (.tuple #[.agg #[.slice none 0 0,.int .i64 0],.bool false])∧Below w.heap.size w w':=by
 have hw:Below w.heap.size w (w.alloc (Obj.cells #[.slice none 0 0,.int .i64 0] 155)):=ba
 have h512:((4096:Int)+7) / 8=512:=by decide
 by_cases hp:0<zs.length
 ·obtain ⟨ab,off,rfl,hbl,hc⟩:=hb.2 hp
  by_cases hbig:512<zs.length-1
  ·clear h hc
   go_enter Tryz.func199,Tryz.ntmps199
   go_wp2_with fail
   refine (bytesFor_any 4096 _ (by omega) (by omega)).mono ?_
   rintro e w1 ⟨rfl,rfl⟩
   rw [h512]
   go_wp2
   exact bodyPost_ret (v:=.tuple #[.agg #[.slice none 0 0,.int .i64 0],.bool false]) (by simp [results,Tryz.results199,go_sem]) rfl ⟨rfl,by repeat (first | exact hw | refine Below.setCell ?_ (by simp) _)⟩
  ·by_cases h0:zs.getD (zs.length-1) 0=0
   ·have hcl:=hc (zs.length-1) (by omega)
    rw [h0] at hcl
    have hz:((0:Int) == 0)=true:=rfl
    clear h hc h0
    go_enter Tryz.func199,Tryz.ntmps199
    go_wp2_with fail
    refine (bytesFor_any 4096 _ (by omega) (by omega)).mono ?_
    rintro e w1 ⟨rfl,rfl⟩
    rw [h512]
    go_wp2
    exact bodyPost_ret (v:=.tuple #[.agg #[.slice none 0 0,.int .i64 0],.bool false]) (by simp [results,Tryz.results199,go_sem]) rfl ⟨rfl,by repeat (first | exact hw | refine Below.setCell ?_ (by simp) _)⟩
   ·obtain ⟨L,b,t,hL,ht,h1,h2,hb8,hn⟩:∃ L b t:Nat,zs.length=L+1∧zs.getD L 0=(t:Int)∧2 ^ b≤t∧t<2 ^ (b+1)∧b<8∧4096<8*L+b:=by
     rcases h with rfl | h | h
     ·simp at hp
     ·exact absurd h h0
     ·exact h
    have hcl:=hc L (by omega)
    rw [ht] at hcl
    have ht1:1≤t:=Nat.le_trans (Nat.pow_pos (by omega)) h1
    have hne:((t:Int) == 0)=false:=by rw [beq_eq_false_iff_ne];omega
    have hbig':L≤512:=by omega
    rw [hL]
    have H1:Hid (2 ^ b≤t):=h1
    have H2:Hid (t<2 ^ (b+1)):=h2
    clear h hc h0 ht h1 h2 hL hbig hp hl
    go_enter Tryz.func199,Tryz.ntmps199
    go_wp2_with fail
    refine (bytesFor_any 4096 _ (by omega) (by omega)).mono ?_
    rintro e w1 ⟨rfl,rfl⟩
    rw [h512]
    go_wp2_with fail
    refine (len8_any t b _ H1.out H2.out hb8).mono ?_
    rintro e w1 ⟨rfl,rfl⟩
    go_wp2
    exact bodyPost_ret (v:=.tuple #[.agg #[.slice none 0 0,.int .i64 0],.bool false]) (by simp [results,Tryz.results199,go_sem]) rfl ⟨rfl,by repeat (first | exact hw | refine Below.setCell ?_ (by simp) _)⟩
 ·have hz:zs.length=0:=by omega
  rw [hz]
  clear h hz hp
  go_enter Tryz.func199,Tryz.ntmps199
  go_wp2
  exact bodyPost_ret (v:=.tuple #[.agg #[.slice none 0 0,.int .i64 0],.bool false]) (by simp [results,Tryz.results199,go_sem]) rfl ⟨rfl,by repeat (first | exact hw | refine Below.setCell ?_ (by simp) _)⟩
set_option maxRecDepth 100000 in
theorem implOpen_yes (a:Option Addr) (cap:Nat) (zs:List Int) (L b t:Nat) (w:World) (hb:Byt w a zs) (hL:zs.length=L+1) (ht:zs.getD L 0=(t:Int)) (h1:2 ^ b≤t) (h2:t<2 ^ (b+1)) (hb8:b<8) (hn:8*L+b≤4096) :
  Calls Tryz.prog 199 #[.slice a (L+1) cap] w fun e w'=>∃ a' cp,e=.returned (.tuple #[.agg #[.slice a' (openY zs L b t).length cp,.int .i64 ((8*L+b:Nat):Int)],.bool true]) ∧
   Mine w' w.heap.size w'.heap.size a' cp (openY zs L b t)∧Below w.heap.size w w':=by
 obtain ⟨i0,hi,hz0,hz1,hz2⟩:=info_parts Tryz.infoU8
 have hsz:(Tryz.prog.info? 5).map (·.size)=some 1:=by rw [hi];simp [hz1]
 have h512:((4096:Int)+7) / 8=512:=by decide
 obtain ⟨ab,off,rfl,hbl,hc⟩:=hb.2 (by omega)
 have hcL:=hc L (by omega)
 rw [ht] at hcL
 have ht1:1≤t:=Nat.le_trans (Nat.pow_pos (by omega)) h1
 have hne:((t:Int) == 0)=false:=by rw [beq_eq_false_iff_ne];omega
 have hL5:L≤512:=by omega
 have HT:Hid (zs.getD L 0=(t:Int)):=ht
 have HL:Hid (zs.length=L+1):=hL
 have HC:Hid (∀ i,i<zs.length→w.cell? ⟨ab,off+i,none⟩=some (.int .u8 (zs.getD i 0))):=hc
 have H1:Hid (2 ^ b≤t):=h1
 have H2:Hid (t<2 ^ (b+1)):=h2
 clear hc ht hL h1 h2
 obtain ⟨q,hq⟩:∃ q,q=8*L+b:=⟨_,rfl⟩
 have HQ:Hid (q=8*L+b):=hq
 obtain ⟨M,hM⟩:∃ M,M=(q+7) / 8:=⟨_,rfl⟩
 have HM:Hid (M=(q+7) / 8):=hM
 have hML:M≤L+1:=by omega
 have hM5:M≤513:=by omega
 have hq4:q≤4096:=by omega
 clear hq hM
 have hZl:(zs.take M).length=M:=by rw [List.length_take,HL.out];omega
 have HZL:Hid ((zs.take M).length=M):=hZl
 have hnews:∀ W:World,(∀ i,w.cell? ⟨ab,off+i,none⟩=W.cell? ⟨ab,off+i,none⟩)→∀ i u,((zs.take M).map (Value.int .u8))[i]?=some u→W.cell? ((⟨ab,off,none⟩:Addr).add i)=some u:=by
  intro W hW
  refine news_of (fun i hi=>?_)
  have hiM:i<M:=by rw [hZl] at hi;exact hi
  rw [show (zs.take M).getD i 0=zs.getD i 0 from by simp [hiM],←hW]
  exact HC.out i (by have:=HL.out;omega)
 have HNEWS:Hid _:=hnews
 clear hnews hZl
 go_enter Tryz.func199,Tryz.ntmps199
 go_wp2_with fail
 refine (bytesFor_any 4096 _ (by omega) (by omega)).mono ?_
 rintro e w1 ⟨rfl,rfl⟩
 rw [h512]
 go_wp2_with fail
 refine (len8_any t b _ H1.out H2.out hb8).mono ?_
 rintro e w1 ⟨rfl,rfl⟩
 go_wp2_with fail
 rw [show (8*(L:Int)+((b:Int)+1)-1)=(q:Int) from by have:=HQ.out;omega]
 refine (bytesFor_any (q:Int) _ (by omega) (by omega)).mono ?_
 rintro e w1 ⟨rfl,rfl⟩
 rw [show (((q:Int)+7) / 8)=(M:Int) from by have:=HM.out;omega]
 by_cases hb0:b=0
 ·have hu:((q:Int) % 8 != 0)=false:=by rw [bne_eq_false_iff_eq];have:=HQ.out;omega
  go_wp2_with (first
   | (at_make;refine wpList_make_full _ rfl _ _ 36 rfl (w.heap.size+1) 5 i0 (.int .u8 0) 1 Tryz.underlying36 hi hz0 hz1 .i64 .i64 _ _ M rfl rfl rfl rfl (by rw [hz2];omega) (by unfold maxLen;omega) (by simp) ?_;intro w1 hown hgrow;have hbel1:Below (w.heap.size+1) (w.alloc (Obj.cells #[.slice none 0 0,.int .i64 0] 155)) w1:=(Below.refl _ _).grown hgrow (by simp) (by intro k hk;cases hk);have hblk:=made_blockO hown;simp only [World.size_alloc] at hblk;have hs1:w.heap.size+1<w1.heap.size:=(Array.getElem?_eq_some_iff.1 hblk).1;have HBLK:Hid (w1.heap[w.heap.size+1]?=some (.cells ((List.replicate M (0:Int)).map (Value.int .u8)).toArray 5 (0,0))):=hblk;clear hown hgrow hblk)
   | (have _t:=HBLK;refine wpList_copy_own rfl (.tmp 44) (.tmp 45) 36 36 rfl 5 Tryz.underlying36 hsz (w.heap.size+1) 0 M M ⟨ab,off,none⟩ (L+1) cap rfl rfl ((List.replicate M (0:Int)).map (Value.int .u8)).toArray 5 (by rw [Below.heap_alloc _ _ _ hs1];exact HBLK.out) ((zs.take M).map (Value.int .u8)) (by rw [List.length_map,HZL.out];exact (Nat.min_eq_right hML).symm) (HNEWS.out _ (fun i=>by exact ((hbel1.cell (p:=⟨ab,off+i,none⟩) (by simp;omega)).trans (Below.cell ((Below.refl w.heap.size w).alloc nl _) (p:=⟨ab,off+i,none⟩) hbl)).symm.trans (Below.cell ((Below.refl w1.heap.size w1).alloc nl _) (p:=⟨ab,off+i,none⟩) (by simp;omega)).symm)) (by rw [List.length_map,HZL.out];simp) (oneCells _) ?_;generalize hw2:World.setRow _ _ _=w2;obtain ⟨ho2,b0,b1,r0,r1,f0,f1,hbb2,hs2⟩:=copy_done hbel1 hs1 HBLK.out HZL.out (fun z hz=>hb.1 z (List.mem_of_mem_take hz)) (by omega) hw2;have HO2:Hid (Own w2 (w.heap.size+1) (w.heap.size+1) M (zs.take M)):=ho2;have HB2:Hid (Below w.heap.size w w2):=hbb2;have HW2:Hid (w2.heap.size=w1.heap.size+1):=hs2;clear hw2 HBLK _t ho2 hbb2 hs2))
  have hY:openY zs L b t=zs.take M:=by rw [openY,if_pos hb0,show M=L from by have h1:=HM.out;have h2:=HQ.out;omega]
  have hqq:((8*L+b:Nat):Int)=(q:Int):=by have:=HQ.out;omega
  refine bodyPost_ret (v:=.tuple #[.agg #[.slice (some ⟨w.heap.size+1,0,none⟩) M M,.int .i64 (q:Int)],.bool true]) (by simp [results,Tryz.results199,go_sem,r0,r1]) rfl ⟨some ⟨w.heap.size+1,0,none⟩,M,by rw [hY,HZL.out,hqq],?_,?_⟩
  ·rw [hY]
   have hlt2:=HO2.out.lt
   refine Mine.mono (B:=w.heap.size+1) (U:=w2.heap.size) ?_ (by omega) (by simp [World.setCell])
   repeat (first | exact HO2.out.mine | refine Mine.setC ?_ (by simp) _)
  ·repeat (first | exact HB2.out | refine Below.setCell ?_ (by simp) _)
 ·have hu:((q:Int) % 8 != 0)=true:=by rw [bne_iff_ne];have:=HQ.out;omega
  go_wp2_with (first
   | (at_make;refine wpList_make_full _ rfl _ _ 36 rfl (w.heap.size+1) 5 i0 (.int .u8 0) 1 Tryz.underlying36 hi hz0 hz1 .i64 .i64 _ _ M rfl rfl rfl rfl (by rw [hz2];omega) (by unfold maxLen;omega) (by simp) ?_;intro w1 hown hgrow;have hbel1:Below (w.heap.size+1) (w.alloc (Obj.cells #[.slice none 0 0,.int .i64 0] 155)) w1:=(Below.refl _ _).grown hgrow (by simp) (by intro k hk;cases hk);have hblk:=made_blockO hown;simp only [World.size_alloc] at hblk;have hs1:w.heap.size+1<w1.heap.size:=(Array.getElem?_eq_some_iff.1 hblk).1;have HBLK:Hid (w1.heap[w.heap.size+1]?=some (.cells ((List.replicate M (0:Int)).map (Value.int .u8)).toArray 5 (0,0))):=hblk;clear hown hgrow hblk)
   | (have _t:=HBLK;refine wpList_copy_own rfl (.tmp 44) (.tmp 45) 36 36 rfl 5 Tryz.underlying36 hsz (w.heap.size+1) 0 M M ⟨ab,off,none⟩ (L+1) cap rfl rfl ((List.replicate M (0:Int)).map (Value.int .u8)).toArray 5 (by rw [Below.heap_alloc _ _ _ hs1];exact HBLK.out) ((zs.take M).map (Value.int .u8)) (by rw [List.length_map,HZL.out];exact (Nat.min_eq_right hML).symm) (HNEWS.out _ (fun i=>by exact ((hbel1.cell (p:=⟨ab,off+i,none⟩) (by simp;omega)).trans (Below.cell ((Below.refl w.heap.size w).alloc nl _) (p:=⟨ab,off+i,none⟩) hbl)).symm.trans (Below.cell ((Below.refl w1.heap.size w1).alloc nl _) (p:=⟨ab,off+i,none⟩) (by simp;omega)).symm)) (by rw [List.length_map,HZL.out];simp) (oneCells _) ?_;generalize hw2:World.setRow _ _ _=w2;obtain ⟨ho2,b0,b1,r0,r1,f0,f1,hbb2,hs2⟩:=copy_done hbel1 hs1 HBLK.out HZL.out (fun z hz=>hb.1 z (List.mem_of_mem_take hz)) (by omega) hw2;have HO2:Hid (Own w2 (w.heap.size+1) (w.heap.size+1) M (zs.take M)):=ho2;have HB2:Hid (Below w.heap.size w w2):=hbb2;have HW2:Hid (w2.heap.size=w1.heap.size+1):=hs2;clear hw2 HBLK _t ho2 hbb2 hs2))
  have hML1:M=L+1:=by have h1:=HM.out;have h2:=HQ.out;omega
  have cg:=HO2.out.cell L (by rw [HZL.out];omega)
  rw [show (zs.take M).getD L 0=(t:Int) from by rw [show (zs.take M).getD L 0=zs.getD L 0 from by simp [hML1]];exact HT.out] at cg
  have fg:=HO2.out.frozen L
  have hLM:L<M:=by omega
  have HML1:Hid (M=L+1):=hML1
  clear hML1
  go_region
  go_wp2
  have hval:bits .andNot .u8 (t:Int) (2 ^ (q % 8) % 256)=((t-2 ^ b:Nat):Int):=by
   have hqb:q % 8=b:=by have:=HQ.out;omega
   have hp:2 ^ b≤2 ^ 7:=Nat.pow_le_pow_right (by omega) (by omega)
   have ht2:t<256:=Nat.lt_of_lt_of_le H2.out (Nat.pow_le_pow_right (n:=2) (by omega) (show b+1≤8 by omega))
   have e:((2:Int) ^ b % 256)=((2 ^ b:Nat):Int):=by
    have e1:((2:Int) ^ b)=((2 ^ b:Nat):Int):=by simp
    have hp':2 ^ b<256:=Nat.lt_of_le_of_lt hp (by decide)
    rw [e1]
    exact Int.emod_eq_of_lt (Int.natCast_nonneg _) (by exact_mod_cast hp')
   rw [hqb,e,u8_andNot_nat t (2 ^ b) ht2 (Nat.lt_of_le_of_lt hp (by decide)),andNot_all t ht2 b hb8 H1.out H2.out]
  rw [hval]
  have hY:openY zs L b t=(zs.take M).set L ((t-2 ^ b:Nat):Int):=by rw [openY,if_neg hb0,List.take_of_length_le (by rw [HL.out,HML1.out];exact Nat.le_refl _)]
  have hyl:(openY zs L b t).length=M:=by rw [hY,List.length_set];exact HZL.out
  have hqq:((8*L+b:Nat):Int)=(q:Int):=by have:=HQ.out;omega
  have ht2:t<256:=Nat.lt_of_lt_of_le H2.out (Nat.pow_le_pow_right (n:=2) (by omega) (show b+1≤8 by omega))
  have hrng:(0:Int)≤((t-2 ^ b:Nat):Int)∧((t-2 ^ b:Nat):Int)≤255:=by
   generalize 2 ^ b=pb
   omega
  have ho3:=HO2.out.store L ((t-2 ^ b:Nat):Int) hrng
  rw [←hY] at ho3
  have r0':=(World.cell?_setCell_other w2 ⟨w.heap.size+1,L,none⟩ ⟨w.heap.size,0,none⟩ (.int .u8 ((t-2 ^ b:Nat):Int)) (by simp)).trans r0
  have r1':=(World.cell?_setCell_other w2 ⟨w.heap.size+1,L,none⟩ ⟨w.heap.size,1,none⟩ (.int .u8 ((t-2 ^ b:Nat):Int)) (by simp)).trans r1
  have hbb3:Below w.heap.size w (w2.setCell ⟨w.heap.size+1,L,none⟩ (.int .u8 ((t-2 ^ b:Nat):Int))):=HB2.out.setCell (by simp) _
  generalize w2.setCell ⟨w.heap.size+1,L,none⟩ (.int .u8 ((t-2 ^ b:Nat):Int))=w3 at *
  refine bodyPost_ret (v:=.tuple #[.agg #[.slice (some ⟨w.heap.size+1,0,none⟩) M M,.int .i64 (q:Int)],.bool true]) (by simp [results,Tryz.results199,go_sem,r0',r1']) rfl ⟨some ⟨w.heap.size+1,0,none⟩,M,by rw [hyl,hqq],?_,?_⟩
  ·have hlt3:=ho3.lt
   refine Mine.mono (B:=w.heap.size+1) (U:=w3.heap.size) ?_ (by omega) (by simp [World.setCell])
   repeat (first | exact ho3.mine | refine Mine.setC ?_ (by simp) _)
  ·repeat (first | exact hbb3 | refine Below.drew ?_ | refine Below.setCell ?_ (by simp) _)
theorem widthOk_any (n:Int) (w:World):Calls Tryz.prog 221 #[.int .i64 n] w fun e w'=>e=.returned (.bool (decide (0≤n∧n≤30)))∧w'=w:=by
 by_cases h0:0≤n
 ·by_cases h1:n≤30
  ·have hE:decide (0≤n∧n≤30)=true:=by simp [h0,h1]
   rw [hE]
   clear hE
   go_enter Tryz.func221,Tryz.ntmps221
   go_wp2
   go_ret
   exact ⟨by simp,rfl⟩
  ·have hE:decide (0≤n∧n≤30)=false:=by simp [h1]
   rw [hE]
   clear hE
   go_enter Tryz.func221,Tryz.ntmps221
   go_wp2
   go_ret
   exact ⟨by simp,rfl⟩
 ·have hE:decide (0≤n∧n≤30)=false:=by simp [h0]
  rw [hE]
  clear hE
  go_enter Tryz.func221,Tryz.ntmps221
  go_wp2
  go_ret
  exact ⟨by simp,rfl⟩
def Sent (w:World) (g:Nat):Prop:=∃ T x,w.cell? ⟨g,0,none⟩=some (.iface T x)
theorem Sent.below {w w':World} {g B:Nat} (h:Sent w g) (hb:Below B w w') (hg:g<B):Sent w' g:=by
 obtain ⟨T,x,hc⟩:=h
 exact ⟨T,x,keep hb hg hc⟩
/-- The reader lies at block R: its bits' bytes, their number, its place. -/
theorem number_any (R:Nat) (a:Option Addr) (cap:Nat) (zs:List Int) (N at0 p width:Int) (n v:Nat) (w:World) (hb:Byt w a zs) (hz:zs=enc n v) (hn:n≤4104)
  (c0:w.cell? ⟨R,0,none⟩=some (.slice a zs.length cap))
  (h0:0≤p) (h1:0≤width) (h2:width≤30) (h3:p+width≤n) :
  Calls Tryz.prog 222 #[.pointer (some ⟨R,0,none⟩),.int .i64 p,.int .i64 width] w fun e w'=>e=.returned (.int .i64 (v / 2 ^ p.toNat % 2 ^ width.toNat:Nat))∧w'=w:=by
 obtain ⟨q,rfl⟩:=Int.eq_ofNat_of_zero_le h0
 obtain ⟨m,rfl⟩:=Int.eq_ofNat_of_zero_le h1
 simp only [Int.toNat_natCast] at *
 have HZ:Hid (zs=enc n v):=hz
 have hlen:zs.length=(n+7) / 8:=by rw [hz,enc_len]
 have HL:Hid (zs.length=(n+7) / 8):=hlen
 clear hz hlen
 go_enter Tryz.func222,Tryz.ntmps222
 go_wp2
 go_loop [7,12] (fun x i=>∃ j:Nat,j≤m∧i=.int .i64 j∧x=.int .i64 (v / 2 ^ q % 2 ^ j:Nat)) (fun _ i=>m-(intOf i).toNat)
 case atStart=>exact ⟨0,Nat.zero_le _,rfl,by simp [Nat.mod_one]⟩
 case round=>
  obtain ⟨j,hj,rfl,rfl⟩:=hrel
  by_cases hlt:j<m
  ·have hx:v / 2 ^ q % 2 ^ j<2 ^ j:=Nat.mod_lt _ (Nat.pow_pos (by omega))
   have HX:=get_up v q j
   have HB:=enc_bit n v (q+j) (by omega)
   rw [←HZ.out] at HB
   have hbit:v / 2 ^ (q+j) % 2<2:=Nat.mod_lt _ (by omega)
   have hll:(q+j) / 8<zs.length:=by have:=HL.out;omega
   obtain ⟨b,off,rfl,hbl,hc⟩:=hb.len_pos ((q+j) / 8) hll
   have hs:=hc ((q+j) / 8) hll
   have hr:=getD_rng hb.1 ((q+j) / 8)
   generalize hX:v / 2 ^ q % 2 ^ j=X at *
   generalize hbt:v / 2 ^ (q+j) % 2=bt at *
   generalize zs.getD ((q+j) / 8) 0=z at *
   have HX':Hid (v / 2 ^ q % 2 ^ (j+1)=X+bt*2 ^ j):=HX
   have HB':Hid (z.toNat / 2 ^ ((q+j) % 8) % 2=bt):=HB
   clear HX HB hX hbt hc
   go_wp2
   go_round
   case rel=>exact ⟨j+1,by omega,by go_num,by rw [or_step64 X j _ z hr hx (by omega),HB'.out,HX'.out]⟩
   case measure=>simp [intOf];omega
  ·have hj0:j=m:=by omega
   subst hj0
   go_wp2
   go_ret
   exact ⟨rfl,rfl⟩
theorem get_no (R:Nat) (a:Option Addr) (cap:Nat) (zs:List Int) (n:Nat) (p width:Int) (w:World) (hn:n≤4104) (pb:p≤9223372036854775807)
  (c0:w.cell? ⟨R,0,none⟩=some (.slice a zs.length cap)) (c1:w.cell? ⟨R,1,none⟩=some (.int .i64 n)) (c2:w.cell? ⟨R,2,none⟩=some (.int .i64 p))
  (s0:Sent w 17) (s2:Sent w 18)
  (h:width<0∨30<width∨p<0∨(n:Int)-width<p) :
  Calls Tryz.prog 213 #[.pointer (some ⟨R,0,none⟩),.int .i64 width] w fun e w'=>(∃ T x,e=.returned (.tuple #[.int .i64 0,.iface T x]))∧∃ m,w'=w.drewN m:=by
 obtain ⟨T0,x0,g0⟩:=s0
 obtain ⟨T2,x2,g2⟩:=s2
 have key:(width<0∨30<width)∨(0≤width∧width≤30∧p<0)∨(0≤width∧width≤30∧0≤p∧(n:Int)-width<p):=by omega
 clear h
 rcases key with hh | ⟨k1,k2,k3⟩ | ⟨k1,k2,k3,k4⟩
 ·have hd:Hid (decide (0≤width∧width≤30)=false):=by simp [Hid];omega
  go_enter Tryz.func213,Tryz.ntmps213
  go_wp2_with fail
  refine (widthOk_any width _).mono ?_
  rintro e w1 ⟨rfl,rfl⟩
  rw [hd.out]
  go_wp2_with fail
  go_quiet (fail)
  go_wp2
  go_ret2
  exact ⟨⟨_,_,rfl⟩,_,rfl⟩
 ·have hd:Hid (decide (0≤width∧width≤30)=true):=by simp [Hid];omega
  have hp:decide (p<0)=true:=by simpa using k3
  go_enter Tryz.func213,Tryz.ntmps213
  go_wp2_with fail
  refine (widthOk_any width _).mono ?_
  rintro e w1 ⟨rfl,rfl⟩
  rw [hd.out]
  go_wp2_with fail
  go_quiet (fail)
  go_wp2
  go_quiet (fail)
  go_wp2
  go_ret2
  exact ⟨⟨_,_,rfl⟩,_,World.drewN_drewN ..⟩
 ·have hd:Hid (decide (0≤width∧width≤30)=true):=by simp [Hid];omega
  have hp:decide (p<0)=false:=by simpa using k3
  go_enter Tryz.func213,Tryz.ntmps213
  go_wp2_with fail
  refine (widthOk_any width _).mono ?_
  rintro e w1 ⟨rfl,rfl⟩
  rw [hd.out]
  go_wp2_with fail
  go_quiet (fail)
  go_wp2
  go_quiet (fail)
  go_wp2
  go_ret2
  exact ⟨⟨_,_,rfl⟩,_,World.drewN_drewN ..⟩
/-- The bytes may hold more bits than the reader has. -/
theorem get_yesM (R:Nat) (a:Option Addr) (cap:Nat) (zs:List Int) (n M v:Nat) (p width:Int) (w:World) (hn:n≤4104) (hM:M≤4104) (hnM:n≤M) (hb:Byt w a zs) (hz:zs=enc M v)
  (c0:w.cell? ⟨R,0,none⟩=some (.slice a zs.length cap)) (c1:w.cell? ⟨R,1,none⟩=some (.int .i64 n)) (c2:w.cell? ⟨R,2,none⟩=some (.int .i64 p)) (f2:w.frozen? ⟨R,2,none⟩=false)
  (k1:0≤width) (k2:width≤30) (k3:0≤p) (k4:p≤(n:Int)-width) :
  Calls Tryz.prog 213 #[.pointer (some ⟨R,0,none⟩),.int .i64 width] w fun e w'=>
   e=.returned (.tuple #[.int .i64 (v / 2 ^ p.toNat % 2 ^ width.toNat:Nat),.nilIface])∧∃ m,w'=(w.drewN m).setCell ⟨R,2,none⟩ (.int .i64 (p+width)):=by
 have hd:Hid (decide (0≤width∧width≤30)=true):=by simp [Hid];omega
 have hp:decide (p<0)=false:=by simpa using k3
 have HZ:Hid (zs=enc M v):=hz
 clear hz
 go_enter Tryz.func213,Tryz.ntmps213
 go_wp2_with fail
 refine (widthOk_any width _).mono ?_
 rintro e w1 ⟨rfl,rfl⟩
 rw [hd.out]
 go_wp2_with fail
 go_quiet (fail)
 go_wp2_with fail
 refine (number_any R a cap zs n p p width M v _ (hb.drewN _) HZ.out hM (by simpa using c0) k3 k1 k2 (by omega)).mono ?_
 rintro e w2 ⟨rfl,rfl⟩
 go_wp2
 go_ret2
 exact ⟨rfl,_,rfl⟩
theorem get_yes (R:Nat) (a:Option Addr) (cap:Nat) (zs:List Int) (n v:Nat) (p width:Int) (w:World) (hn:n≤4104) (hb:Byt w a zs) (hz:zs=enc n v)
  (c0:w.cell? ⟨R,0,none⟩=some (.slice a zs.length cap)) (c1:w.cell? ⟨R,1,none⟩=some (.int .i64 n)) (c2:w.cell? ⟨R,2,none⟩=some (.int .i64 p)) (f2:w.frozen? ⟨R,2,none⟩=false)
  (k1:0≤width) (k2:width≤30) (k3:0≤p) (k4:p≤(n:Int)-width) :
  Calls Tryz.prog 213 #[.pointer (some ⟨R,0,none⟩),.int .i64 width] w fun e w'=>
   e=.returned (.tuple #[.int .i64 (v / 2 ^ p.toNat % 2 ^ width.toNat:Nat),.nilIface])∧∃ m,w'=(w.drewN m).setCell ⟨R,2,none⟩ (.int .i64 (p+width)):=
 get_yesM R a cap zs n n v p width w hn hn nl hb hz c0 c1 c2 f2 k1 k2 k3 k4
def RD (w:World) (B R:Nat) (a:Option Addr) (L cap n p:Nat):Prop:=w.heap[R]?=some (.cells #[.slice a L cap,.int .i64 n,.int .i64 p] 261 (0,0))∧B≤R∧B≤w.heap.size
theorem cellRR {w:World} {R j:Nat} {cur:Array Value} {T:TypeId} {v:Value} (hR:w.heap[R]?=some (.cells cur T (0,0))) (hv:cur[j]?=some v):w.cell? ⟨R,j,none⟩=some v:=by
 rw [cell_of_row w R j cur T (0,0) hR];exact hv
theorem RD.frz {w:World} {B R:Nat} {a:Option Addr} {L cap n p:Nat} (h:RD w B R a L cap n p) (j:Nat):w.frozen? ⟨R,j,none⟩=false:=frozen_of_row w R j _ _ h.1
theorem RD.yes {w:World} {B R:Nat} {a:Option Addr} {zs:List Int} {cap n p:Nat} (h:RD w B R a zs.length cap n p) (v:Nat) (width:Int) (hn:n≤4104) (hb:Byt w a zs) (hz:zs=enc n v) (k1:0≤width) (k2:width≤30) (k4:(p:Int)≤(n:Int)-width) :
  Calls Tryz.prog 213 #[.pointer (some ⟨R,0,none⟩),.int .i64 width] w fun e w'=>
   e=.returned (.tuple #[.int .i64 (v / 2 ^ p % 2 ^ width.toNat:Nat),.nilIface])∧RD w' B R a zs.length cap n (p+width.toNat)∧Only (fun k=>k=R) w w'∧Below B w w':=by
 refine (get_yes R a cap zs n v p width w hn hb hz (cellRR (j:=0) h.1 rfl) (cellRR (j:=1) h.1 rfl) (cellRR (j:=2) h.1 rfl) (h.frz 2) k1 k2 (by omega) k4).mono ?_
 rintro e w' ⟨rfl,m,rfl⟩
 have hR:(w.drewN m).heap[R]?=some (.cells #[.slice a zs.length cap,.int .i64 n,.int .i64 p] 261 (0,0)):=h.1
 have hO:Only (fun k=>k=R) w ((w.drewN m).setCell ⟨R,2,none⟩ (.int .i64 ((p:Int)+width))):=by
  have h0:Only (fun k=>k=R) w (w.drewN m):=Only.ofBelow (S:=fun k=>k=R) (B:=w.heap.size) ⟨rfl,rfl,rfl,Nat.le_refl _,fun _ _=>rfl⟩ nl
  exact Only.setCell h0 (p:=⟨R,2,none⟩) (.inl rfl) _
 refine ⟨by simp,⟨?_,h.2.1,Nat.le_trans h.2.2 hO.size⟩,hO,hO.below h.2.2 (fun k hk=>by rw [hk];exact h.2.1)⟩
 rw [heap_setCell_same _ R 2 _ _ _ hR]
 have e:((p:Int)+width)=((p+width.toNat:Nat):Int):=by omega
 rw [e]
 simp
theorem RD.no {w:World} {B R:Nat} {a:Option Addr} {zs:List Int} {cap n p:Nat} (h:RD w B R a zs.length cap n p) (width:Int) (hn:n≤4104) (hp:p≤4104) (s0:Sent w 17) (s2:Sent w 18) (k4:width<0∨30<width∨(n:Int)-width<p) :
  Calls Tryz.prog 213 #[.pointer (some ⟨R,0,none⟩),.int .i64 width] w fun e w'=>(∃ T x,e=.returned (.tuple #[.int .i64 0,.iface T x]))∧∃ m,w'=w.drewN m:=
 get_no R a cap zs n p width w hn (by omega) (cellRR (j:=0) h.1 rfl) (cellRR (j:=1) h.1 rfl) (cellRR (j:=2) h.1 rfl) s0 s2 (by omega)
theorem RD.only {w w':World} {B R:Nat} {a:Option Addr} {L cap n p:Nat} {S:Nat→Prop} (h:RD w B R a L cap n p) (ho:Only S w w') (hs:¬S R):RD w' B R a L cap n p:=
 ⟨(ho.block R (Array.getElem?_eq_some_iff.1 h.1).1 hs).trans h.1,h.2.1,Nat.le_trans h.2.2 ho.size⟩
end Go.Proofs.YtaibkchbkedjnaaGreatDoor
