/- Lemmas on the way. -/
import Derived.Test.YtfeokafkhnbdiaaGreatDoorLzL
import Derived.Test.YtfeokafkhnbdiaaGreatDoorEkA
import Derived.Test.YtfeokafkhnbdiaaGreatDoorDrBy
import Derived.Test.YtfeokafkhnbdiaaGreatDoorLGetM
set_option maxRecDepth 20000
set_option maxHeartbeats 16000000
namespace Go.Proofs.YtfeokafkhnbdiaaGreatDoor
open Go.RowKit
set_option linter.unusedVariables false
set_option linter.unusedSimpArgs false
theorem only_late {S T:Nat→Prop} {a b c:World} (h:Only S a b) (k:Only T b c) (hT:∀ i,T i→a.heap.size≤i):Only S a c:=
 ⟨k.os.trans h.os,k.tape.trans h.tape,k.output.trans h.output,Nat.le_trans h.size k.size,fun i hi hs=>(k.block i (Nat.lt_of_lt_of_le hi h.size) (fun ht=>by have:=hT i ht;omega)).trans (h.block i hi hs)⟩
structure SqD (w:World) (B:Nat) (v:Value) (ss:List Sq):Prop where
 row:OVq w B v ss
 lets:∀ s ∈ ss,Mine w B w.heap.size s.a s.c s.ls
 few:ss.length≤65∧∀ s ∈ ss,s.ls.length≤65∧(-1≤s.n∧s.n≤64)∧(0≤s.d∧s.d≤64)
section
variable {w w' : World} {B : Nat} {v : Value} {ss : List Sq}
theorem SqD.of (h1:OVq w B v ss) (h2:DeepQ w B ss) (h3:Few4 ss):SqD w B v ss:=⟨h1,h2.mine,h3.1,fun s hs=>by have:=h3.2 s hs;omega⟩
theorem SqD.stay {S:Nat→Prop} (h:SqD w B v ss) (ho:Only S w w') (hS:∀ k,B≤k→¬S k):SqD w' B v ss:=
 ⟨h.row.stay ho (fun k hk=>hS k (h.row.blk hk).1),fun s hs=>((h.lets s hs).stayQ ho (fun k hk=>hS k ((h.lets s hs).rowB hk).1)).mono nl ho.size,h.few⟩
theorem SqD.weak {B':Nat} (h:SqD w B v ss) (hB:B'≤B):SqD w B' v ss:=⟨h.row.weak hB,fun s hs=>(h.lets s hs).mono hB nl,h.few⟩
theorem SqD.sqs {a:Option Addr} {n c:Nat} (h:SqD w B (.slice a n c) ss):Sqs w a ss:=h.row.sqs (fun s hs=>by
 have:=h.few.2 s hs
 exact ⟨⟨⟨by omega,by omega⟩,⟨by omega,by omega⟩,by unfold maxLen;omega⟩,(h.lets s hs).byt⟩)
theorem flat_set0 (a:Option Addr) (c:Nat) (ls:List Int):∀ (ss:List Sq) (k:Nat),k<ss.length→(ss.flatMap Sq.cells).set (k*3) (.slice a ls.length c)=(ss.set k ⟨a,c,ls,(ss.getD k dq).n,(ss.getD k dq).d⟩).flatMap Sq.cells
 | [],k,hk=>by simp at hk
 | s :: ss,0,hk=>by simp [List.flatMap_cons,Sq.cells]
 | s :: ss,k+1,hk=>by
  have:=flat_set0 a c ls ss k (by simpa using hk)
  rw [List.set_cons_succ,List.flatMap_cons,List.flatMap_cons,List.getD_cons_succ,←this,show (k+1)*3=k*3+3 from by omega]
  simp [Sq.cells]
theorem flat_set1 (z:Int):∀ (ss:List Sq) (k:Nat),k<ss.length→(ss.flatMap Sq.cells).set (k*3+1) (.int .i64 z)=(ss.set k ⟨(ss.getD k dq).a,(ss.getD k dq).c,(ss.getD k dq).ls,z,(ss.getD k dq).d⟩).flatMap Sq.cells
 | [],k,hk=>by simp at hk
 | s :: ss,0,hk=>by simp [List.flatMap_cons,Sq.cells]
 | s :: ss,k+1,hk=>by
  have:=flat_set1 z ss k (by simpa using hk)
  rw [List.set_cons_succ,List.flatMap_cons,List.flatMap_cons,List.getD_cons_succ,←this,show (k+1)*3+1=k*3+1+3 from by omega]
  simp [Sq.cells]
theorem flat_set2 (z:Int):∀ (ss:List Sq) (k:Nat),k<ss.length→(ss.flatMap Sq.cells).set (k*3+2) (.int .i64 z)=(ss.set k ⟨(ss.getD k dq).a,(ss.getD k dq).c,(ss.getD k dq).ls,(ss.getD k dq).n,z⟩).flatMap Sq.cells
 | [],k,hk=>by simp at hk
 | s :: ss,0,hk=>by simp [List.flatMap_cons,Sq.cells]
 | s :: ss,k+1,hk=>by
  have:=flat_set2 z ss k (by simpa using hk)
  rw [List.set_cons_succ,List.flatMap_cons,List.flatMap_cons,List.getD_cons_succ,←this,show (k+1)*3+2=k*3+2+3 from by omega]
  simp [Sq.cells]
theorem few_set {k:Nat} {s:Sq} (h:ss.length≤65∧∀ s ∈ ss,s.ls.length≤65∧(-1≤s.n∧s.n≤64)∧(0≤s.d∧s.d≤64)) (hs:s.ls.length≤65∧(-1≤s.n∧s.n≤64)∧(0≤s.d∧s.d≤64)):(ss.set k s).length≤65∧∀ x ∈ ss.set k s,x.ls.length≤65∧(-1≤x.n∧x.n≤64)∧(0≤x.d∧x.d≤64):=by
 refine ⟨by rw [List.length_set];exact h.1,fun x hx=>?_⟩
 rcases List.mem_or_eq_of_mem_set hx with hx | rfl
 ·exact h.2 x hx
 ·exact hs
theorem OVq.lenQ {a:Option Addr} {n c:Nat} (h:OVq w B (.slice a n c) ss):n=ss.length:=by
 obtain ⟨a',c',e⟩:=h.form
 simp only [Value.slice.injEq] at e
 exact e.2.1
theorem SqD.cells {g c n:Nat} (h:SqD w B (.slice (some ⟨g,0,none⟩) n c) ss) (k:Nat) (hk:k<ss.length):Lies w g (k*3) (ss.getD k dq)∧(∀ j,w.frozen? ⟨g,j,none⟩=false)∧B≤g∧g<w.heap.size:=by
 obtain rfl:=h.row.lenQ
 obtain ⟨f0,f1,f2⟩:=flat_get ss k hk
 have hb:=h.row.blk (k:=g) rfl
 exact ⟨⟨by rw [h.row.own.cellAt (k*3) (by omega),f0],by rw [h.row.own.cellAt (k*3+1) (by omega),f1],by rw [h.row.own.cellAt (k*3+2) (by omega),f2],(h.lets _ (getD_memS hk)).byt⟩,fun j=>h.row.own.frozenAt j,hb.1,hb.2⟩
theorem SqD.put1 {g c n:Nat} (h:SqD w B (.slice (some ⟨g,0,none⟩) n c) ss) (k:Nat) (hk:k<ss.length) (z:Int) (hz:-1≤z∧z≤64) :
  SqD (w.setCell ⟨g,k*3+1,none⟩ (.int .i64 z)) B (.slice (some ⟨g,0,none⟩) n c) (ss.set k ⟨(ss.getD k dq).a,(ss.getD k dq).c,(ss.getD k dq).ls,z,(ss.getD k dq).d⟩):=by
 obtain rfl:=h.row.lenQ
 have r:=(h.row.own.stored (k*3+1) (.int .i64 z)).1
 rw [flat_set1 z ss k hk] at r
 have ho:Only (fun b=>b=g) w (w.setCell ⟨g,k*3+1,none⟩ (.int .i64 z)):=(Only.refl (fun b=>b=g) w).setCell (p:=⟨g,k*3+1,none⟩) (.inl rfl) _
 have hf:=h.few.2 _ (getD_memS hk)
 refine ⟨⟨by rw [List.length_set];exact r⟩,fun s hs=>?_,few_set h.few ⟨hf.1,hz,hf.2.2⟩⟩
 have hm:Mine w B w.heap.size s.a s.c s.ls:=by
  rcases List.mem_or_eq_of_mem_set hs with hs | rfl
  ·exact h.lets s hs
  ·have h9:=h.lets (ss.getD k dq) (getD_memS hk)
   exact h9
 exact (hm.stayQ ho (fun b hb e=>h.row.other hm (g:=g) rfl (e ▸ hb))).mono nl ho.size
theorem SqD.put2 {g c n:Nat} (h:SqD w B (.slice (some ⟨g,0,none⟩) n c) ss) (k:Nat) (hk:k<ss.length) (z:Int) (hz:0≤z∧z≤64) :
  SqD (w.setCell ⟨g,k*3+2,none⟩ (.int .i64 z)) B (.slice (some ⟨g,0,none⟩) n c) (ss.set k ⟨(ss.getD k dq).a,(ss.getD k dq).c,(ss.getD k dq).ls,(ss.getD k dq).n,z⟩):=by
 obtain rfl:=h.row.lenQ
 have r:=(h.row.own.stored (k*3+2) (.int .i64 z)).1
 rw [flat_set2 z ss k hk] at r
 have ho:Only (fun b=>b=g) w (w.setCell ⟨g,k*3+2,none⟩ (.int .i64 z)):=(Only.refl (fun b=>b=g) w).setCell (p:=⟨g,k*3+2,none⟩) (.inl rfl) _
 have hf:=h.few.2 _ (getD_memS hk)
 refine ⟨⟨by rw [List.length_set];exact r⟩,fun s hs=>?_,few_set h.few ⟨hf.1,hf.2.1,hz⟩⟩
 have hm:Mine w B w.heap.size s.a s.c s.ls:=by
  rcases List.mem_or_eq_of_mem_set hs with hs | rfl
  ·exact h.lets s hs
  ·have h9:=h.lets (ss.getD k dq) (getD_memS hk)
   exact h9
 exact (hm.stayQ ho (fun b hb e=>h.row.other hm (g:=g) rfl (e ▸ hb))).mono nl ho.size
theorem pair_ap {xs:List (Option Addr)} (h:xs.Pairwise (fun x y=>∀ k,rowOf x k→¬rowOf y k)) {i j:Nat} {x y:Option Addr} (hi:xs[i]?=some x) (hj:xs[j]?=some y) (hij:i≠j):∀ k,rowOf x k→¬rowOf y k:=by
 have hp:=List.pairwise_iff_getElem.1 h
 obtain ⟨li,hi⟩:=List.getElem?_eq_some_iff.1 hi
 obtain ⟨lj,hj⟩:=List.getElem?_eq_some_iff.1 hj
 subst hi hj
 rcases Nat.lt_or_gt_of_ne hij with h1 | h1
 ·exact hp i j li lj h1
 ·exact fun k hx hy=>hp j i lj li h1 k hy hx
theorem SqD.putL {g c n:Nat} {W W2:World} {v':Value} {z:Int} (h:SqD w B (.slice (some ⟨g,0,none⟩) n c) ss) (hd:DeepQ w B ss) (k:Nat) (hk:k<ss.length) (hl:(ss.getD k dq).ls.length≤64) (hW:Only (fun _=>False) w W)
  (hv:OVB W2 B v' ((ss.getD k dq).ls++[z])) (hg:W.grownBy W2 (Value.slice (ss.getD k dq).a (ss.getD k dq).ls.length (ss.getD k dq).c).ownBlock) :
  W2.cell? ⟨g,k*3,none⟩=some (.slice (ss.getD k dq).a (ss.getD k dq).ls.length (ss.getD k dq).c)∧W2.frozen? ⟨g,k*3,none⟩=false∧∃ ts,ts.length=ss.length∧SqD (W2.setCell ⟨g,k*3,none⟩ v') B (.slice (some ⟨g,0,none⟩) n c) ts:=by
 obtain rfl:=h.row.lenQ
 obtain ⟨hli,hfz,hb1,hb2⟩:=h.cells k hk
 have hmk:=h.lets _ (getD_memS hk)
 have hblk:∀ b,(Value.slice (ss.getD k dq).a (ss.getD k dq).ls.length (ss.getD k dq).c).ownBlock=some b→rowOf (ss.getD k dq).a b:=fun b e=>by
  cases ha:(ss.getD k dq).a with
  | none=>rw [ha] at e;simp [Value.ownBlock] at e
  | some x=>rw [ha] at e;exact ⟨x,rfl,by simpa [Value.ownBlock] using e⟩
 have ho2:Only (fun b=>(Value.slice (ss.getD k dq).a (ss.getD k dq).ls.length (ss.getD k dq).c).ownBlock=some b) w W2:=(hW.mono (fun b _ hb=>hb.elim)).trans (Only.ofGrownQ hg)
 have hng:¬(Value.slice (ss.getD k dq).a (ss.getD k dq).ls.length (ss.getD k dq).c).ownBlock=some g:=fun e=>h.row.other hmk (g:=g) rfl (hblk g e)
 have hrow:OVq W2 B (.slice (some ⟨g,0,none⟩) ss.length c) ss:=h.row.stay ho2 (fun b hb e=>by
  have e2:g=b:=by simpa [Value.ownBlock] using hb
  exact hng (e2 ▸ e))
 obtain ⟨a',c',rfl,hm'⟩:=hv.mine
 have ho3:Only (fun b=>b=g) W2 (W2.setCell ⟨g,k*3,none⟩ (.slice a' ((ss.getD k dq).ls++[z]).length c')):=(Only.refl (fun b=>b=g) W2).setCell (p:=⟨g,k*3,none⟩) (.inl rfl) _
 refine ⟨ho2.cell hb2 hng hli.c0,hrow.own.frozenAt _,ss.set k ⟨a',c',(ss.getD k dq).ls++[z],(ss.getD k dq).n,(ss.getD k dq).d⟩,by rw [List.length_set],⟨?_⟩,fun s hs=>?_,?_⟩
 ·have r:=(hrow.own.stored (k*3) (.slice a' ((ss.getD k dq).ls++[z]).length c')).1
  rw [flat_set0 a' c' _ ss k hk] at r
  rw [List.length_set]
  exact r
 ·have hm:Mine W2 B W2.heap.size s.a s.c s.ls:=by
   obtain ⟨j,hj,rfl⟩:=List.getElem_of_mem hs
   rw [List.length_set] at hj
   by_cases hjk:j=k
   ·subst hjk
    simp only [List.getElem_set_self]
    exact hm'
   ·rw [List.getElem_set_ne (Ne.symm hjk)]
    have hmj:=h.lets _ (List.getElem_mem hj)
    refine (hmj.stayQ ho2 (fun b hb e=>?_)).mono nl ho2.size
    refine pair_ap hd.apart (i:=j) (j:=k) (x:=ss[j].a) (y:=(ss.getD k dq).a) (by simp [hj]) (by rw [List.getElem?_map,List.getD_eq_getElem?_getD,List.getElem?_eq_getElem hk];rfl) hjk b hb (hblk b e)
  exact (hm.stayQ ho3 (fun b hb e=>hrow.other hm (g:=g) rfl (e ▸ hb))).mono nl ho3.size
 ·have hf:=h.few.2 _ (getD_memS hk)
  exact few_set h.few ⟨by rw [List.length_append,List.length_singleton];omega,hf.2.1,hf.2.2⟩
theorem SqD.snoc {W:World} {v':Value} {s:Sq} (h:SqD w B v ss) (hW:Only (fun _=>False) w W) (hm:Mine W B W.heap.size s.a s.c s.ls) (hv:OVq w' B v' (ss++[s])) (hg:W.grownBy w' v.ownBlock) (hl:ss.length≤64) (hs:s.ls.length≤65∧(-1≤s.n∧s.n≤64)∧(0≤s.d∧s.d≤64)):SqD w' B v' (ss++[s]):=by
 have hr:=h.row.stay hW (by simp)
 have ho:=Only.ofGrownQ hg
 refine ⟨hv,fun x hx=>?_,by simp;omega,fun x hx=>?_⟩
 ·have hmx:Mine W B W.heap.size x.a x.c x.ls:=by
   rcases List.mem_append.1 hx with hx | hx
   ·exact ((h.lets x hx).stayQ hW (by simp)).mono nl hW.size
   ·obtain rfl:x=s:=by simpa using hx
    exact hm
  exact (hmx.stayQ ho (fun b hb e=>hr.other hmx e hb)).mono nl ho.size
 ·rcases List.mem_append.1 hx with hx | hx
  ·exact h.few.2 x hx
  ·obtain rfl:x=s:=by simpa using hx
   exact hs
end
theorem Dr.draw4 {w0 w:World} {B R:Nat} {a:Option Addr} {bs:List Int} {cap:Nat} (h:Dr w0 w B R a bs cap) :
  Calls Tryz.prog 49 #[.pointer (some ⟨R,0,none⟩)] w fun e w'=>∃ (a':Option Addr) (c':Nat) (ss:List Sq) (ys:List Int),e=.returned (.slice a' ss.length c')∧ys.length≤64∧ss.map Sq.ct=found ys∧SqD w' w.heap.size (.slice a' ss.length c') ss∧DeepQ w' w.heap.size ss∧Few4 ss∧Dr w0 w' B R a bs cap∧Only (fun k=>k=R) w w':=by
 have H:Hid (Dr w0 w B R a bs cap):=h
 have hRB:=h.cur.lt
 clear h
 have HIN:Hid (∀ T,Ins (w.alloc (.cells #[.int .i64 0,.int .i64 1,.int .i64 5,.int .i64 20,.int .i64 63,.int .i64 64] T)) (some ⟨w.heap.size,0,none⟩) [0,1,5,20,63,64]):=fun T=>by
  have:=ins_newN w T [0,1,5,20,63,64] (by intro z hz;simp at hz;omega)
  simpa using this
 have hoa:Only (fun _=>False) w (w.alloc (.cells #[.int .i64 0,.int .i64 1,.int .i64 5,.int .i64 20,.int .i64 63,.int .i64 64] 3)):=(Only.refl _ _).alloc _
 go_enter Tryz.func49,Tryz.ntmps49
 go_wp2_with fail
 refine ((H.out.other hoa (by simp) (by simp)).pick w.heap.size 6 [0,1,5,20,63,64] (HIN.out _) (by omega) (by simp) (by simp)).mono ?_
 rintro e w2 ⟨⟨z,hz,rfl⟩,hd2,ho2⟩
 have hz2:0≤z∧z≤64:=by simp at hz;omega
 obtain ⟨n,rfl⟩:=Int.eq_ofNat_of_zero_le hz2.1
 have hn:n≤64:=by omega
 have HD2:Hid (Dr w0 w2 B R a bs cap∧Only (fun k=>k=R) w w2):=⟨hd2,(hoa.mono (fun k _ hk=>hk.elim)).trans ho2⟩
 clear hd2 ho2 hoa HIN H hz hz2
 go_wp2_with fail
 refine (HD2.out.1.bytes4 n (by omega)).mono ?_
 rintro e w3 ⟨a3,c3,ls,rfl,rfl,hov,hd3,ho3⟩
 have HD3:Hid (Dr w0 w3 B R a bs cap∧Only (fun k=>k=R) w w3):=⟨hd3,HD2.out.2.trans ho3⟩
 have HFD:=l4find_any a3 c3 ls w3 hov.byt hn
 clear hd3 ho3 hov HD2
 go_wp2_with fail
 refine HFD.mono ?_
 clear HFD
 rintro e w4 ⟨⟨v4,rfl,hfa⟩,hb4⟩
 obtain ⟨a4,c4,ss,rfl,hct,hsq,hfw,hrg⟩:=hfa.sqs
 have ho4:Only (fun k=>k=R) w3 w4:=Only.ofBelow hb4 nl
 have HD4:Hid (Dr w0 w4 B R a bs cap∧Only (fun k=>k=R) w w4∧ss.map Sq.ct=found ls∧Few4 ss):=⟨HD3.out.1.other (Only.ofBelow (S:=fun _=>False) hb4 nl) (by simp) (by simp),HD3.out.2.trans ho4,hct,hfw⟩
 have HOW:=l4own_any a4 c4 ss w4 hsq (by have:=hfw.1;omega) (fun s hs=>by have:=(hfw.2 s hs).1;omega)
 have hsz:w.heap.size≤w4.heap.size:=HD4.out.2.1.size
 clear hfa hb4 ho4 hsq hct hfw hrg HD3
 go_wp2_with fail
 refine HOW.mono ?_
 clear HOW
 rintro e w5 ⟨⟨v5,ts,rfl,hct,hoq,hdq⟩,hb5⟩
 obtain ⟨a5,c5,rfl⟩:=hoq.form
 have HF:Hid (SqD w5 w.heap.size (.slice a5 ts.length c5) ts∧DeepQ w5 w.heap.size ts∧Few4 ts∧ts.map Sq.ct=found ls∧Dr w0 w5 B R a bs cap∧Only (fun k=>k=R) w w5):=by
  have hf:=HD4.out.2.2.2.ct hct
  have hdw:DeepQ w5 w.heap.size ts:=⟨fun s hs=>(hdq.mine s hs).mono hsz nl,hdq.apart⟩
  exact ⟨SqD.of (hoq.weak hsz) hdw hf,hdw,hf,hct.trans HD4.out.2.2.1,HD4.out.1.other (Only.ofBelow (S:=fun _=>False) hb5 nl) (by simp) (by simp),HD4.out.2.1.trans (Only.ofBelow hb5 nl)⟩
 clear hct hoq hdq hb5 HD4
 go_wp2
 go_ret
 exact ⟨a5,c5,ts,ls,rfl,hn,HF.out.2.2.2.1,HF.out.1,HF.out.2.1,HF.out.2.2.1,HF.out.2.2.2.2.1,HF.out.2.2.2.2.2⟩
theorem Mine.ovbQ {w:World} {B U:Nat} {a:Option Addr} {c:Nat} {zs:List Int} (h:Mine w B U a c zs):OVB w B (.slice a zs.length c) zs:=by
 rcases h with ⟨rfl,rfl,rfl⟩ | ⟨g,rfl,_,_,h⟩
 ·exact OVB.nil _ _
 ·exact h
theorem mine_one (w:World) (B:Nat) (hB:B≤w.heap.size):Mine (w.alloc (.cells #[.int .u8 1] 5)) B (w.alloc (.cells #[.int .u8 1] 5)).heap.size (some ⟨w.heap.size,0,none⟩) 1 [1]:=by
 have ho:OVB (w.alloc (.cells #[.int .u8 1] 5)) B (.slice (some ⟨w.heap.size,0,none⟩) 1 1) [1]:=
  ⟨⟨rfl,.inr ⟨w.heap.size,1,#[.int .u8 1],rfl,hB,heap_alloc_new w _,by simp,by unfold maxLen;omega,rfl,rfl⟩⟩,by intro y hy;simp at hy;omega⟩
 obtain ⟨a',c',e,hm⟩:=ho.mine
 obtain ⟨rfl,rfl⟩:some ⟨w.heap.size,0,none⟩=a'∧1=c':=by simpa using e
 exact hm
theorem Dr.bent4 {w0 w:World} {B R:Nat} {a:Option Addr} {bs:List Int} {cap:Nat} (h:Dr w0 w B R a bs cap) :
  Calls Tryz.prog 41 #[.pointer (some ⟨R,0,none⟩)] w fun e w'=>∃ (a':Option Addr) (c':Nat) (ss:List Sq),e=.returned (.slice a' ss.length c')∧SqD w' w.heap.size (.slice a' ss.length c') ss∧Dr w0 w' B R a bs cap∧Only (fun k=>k=R) w w':=by
 have H:Hid (Dr w0 w B R a bs cap):=h
 have hRB:=h.cur.lt
 clear h
 go_enter Tryz.func41,Tryz.ntmps41
 go_wp2_with fail
 refine H.out.draw4.mono ?_
 rintro e w1 ⟨a1,c1,ss,ys,rfl,hyl,hct,hsd,hdq,hfw,hd1,ho1⟩
 have HS1:Hid (SqD w1 w.heap.size (.slice a1 ss.length c1) ss∧DeepQ w1 w.heap.size ss∧Dr w0 w1 B R a bs cap∧Only (fun k=>k=R) w w1∧Few4 ss):=⟨hsd,hdq,hd1,ho1,hfw⟩
 have hl65:=hsd.few.1
 clear hyl hct hsd hdq hfw hd1 ho1 H
 go_wp2_with fail
 refine (HS1.out.2.2.1.once 6 (by omega) (by omega)).mono ?_
 rintro e w2 ⟨⟨bb,rfl⟩,hd2,ho2⟩
 have HS2:Hid (SqD w2 w.heap.size (.slice a1 ss.length c1) ss∧DeepQ w2 w.heap.size ss∧Dr w0 w2 B R a bs cap∧Only (fun k=>k=R) w w2∧Few4 ss):=⟨HS1.out.1.stay ho2 (fun k hk e=>by omega),HS1.out.2.1.stay ho2 (fun s hs k hk e=>by have:=((HS1.out.2.1.mine s hs).rowB hk).1;omega),hd2,HS1.out.2.2.2.1.trans ho2,HS1.out.2.2.2.2⟩
 clear hd2 ho2 HS1
 cases bb with
 | false=>
  go_wp2
  go_ret
  exact ⟨a1,c1,ss,rfl,HS2.out.1,HS2.out.2.2.1,HS2.out.2.2.2.1⟩
 | true=>
  by_cases h0:ss.length=0
  ·have h0I:¬(0:Int)<(ss.length:Int):=by omega
   go_wp2
   go_ret
   exact ⟨a1,c1,ss,congrArg (fun n=>Ending.returned (Value.slice a1 n c1)) h0.symm,HS2.out.1,HS2.out.2.2.1,HS2.out.2.2.2.1⟩
  ·have h0I:(0:Int)<(ss.length:Int):=by omega
   obtain ⟨g,rfl⟩:∃ g,a1=some ⟨g,0,none⟩:=by
    rcases HS2.out.1.row.own.2 with ⟨_,h9⟩ | ⟨g,cap',cur,e,_⟩
    ·omega
    ·simp only [Value.slice.injEq] at e
     exact ⟨g,e.1⟩
   go_wp2_with fail
   refine (HS2.out.2.2.1.below (ss.length:Int) (by omega) (by omega)).mono ?_
   rintro e w3 ⟨⟨x,hx1,hx2,rfl⟩,hd3,ho3⟩
   obtain ⟨k,rfl⟩:=Int.eq_ofNat_of_zero_le hx1
   have hk:k<ss.length:=by omega
   have HS3:Hid (SqD w3 w.heap.size (.slice (some ⟨g,0,none⟩) ss.length c1) ss∧DeepQ w3 w.heap.size ss∧Dr w0 w3 B R a bs cap∧Only (fun k=>k=R) w w3∧Few4 ss):=⟨HS2.out.1.stay ho3 (fun k hk e=>by omega),HS2.out.2.1.stay ho3 (fun s hs k hk e=>by have:=((HS2.out.2.1.mine s hs).rowB hk).1;omega),hd3,HS2.out.2.2.2.1.trans ho3,HS2.out.2.2.2.2⟩
   clear hd3 ho3 HS2 hx1
   go_wp2_with fail
   refine (HS3.out.2.2.1.below 4 (by omega) (by omega)).mono ?_
   rintro e w4 ⟨⟨kk,hk1,hk2,rfl⟩,hd4,ho4⟩
   have HS4:Hid (SqD w4 w.heap.size (.slice (some ⟨g,0,none⟩) ss.length c1) ss∧DeepQ w4 w.heap.size ss∧Dr w0 w4 B R a bs cap∧Only (fun k=>k=R) w w4∧Few4 ss):=⟨HS3.out.1.stay ho4 (fun k hk e=>by omega),HS3.out.2.1.stay ho4 (fun s hs k hk e=>by have:=((HS3.out.2.1.mine s hs).rowB hk).1;omega),hd4,HS3.out.2.2.2.1.trans ho4,HS3.out.2.2.2.2⟩
   clear hd4 ho4 HS3
   have hw4:w.heap.size≤w4.heap.size:=HS4.out.2.2.2.1.size
   have key:kk=0∨kk=1∨kk=2∨kk=3:=by omega
   clear hk1 hk2
   rcases key with rfl | rfl | rfl | rfl
   ·have HIN:Hid (∀ T,Ins (w4.alloc (.cells #[.int .i64 0,.int .i64 2,.int .i64 3,.int .i64 60,.int .i64 (-1)] T)) (some ⟨w4.heap.size,0,none⟩) [0,2,3,60,-1]):=fun T=>by
     have:=ins_newN w4 T [0,2,3,60,-1] (by intro z hz;simp at hz;omega)
     simpa using this
    have hoa:Only (fun _=>False) w4 (w4.alloc (.cells #[.int .i64 0,.int .i64 2,.int .i64 3,.int .i64 60,.int .i64 (-1)] 3)):=(Only.refl _ _).alloc _
    go_wp2_with fail
    refine ((HS4.out.2.2.1.other hoa (by simp) (by simp)).pick w4.heap.size 5 [0,2,3,60,-1] (HIN.out _) (by omega) (by simp) (by simp)).mono ?_
    rintro e w5 ⟨⟨z,hz,rfl⟩,hd5,ho5⟩
    have hz2:-1≤z∧z≤64:=by simp at hz;omega
    have hsd:=(HS4.out.1.stay hoa (by simp)).stay ho5 (fun k hk e=>by omega)
    obtain ⟨hli,hfz,hg1,hg2⟩:=hsd.cells k hk
    have c1':=hli.c1
    have f1':=hfz (k*3+1)
    have HF:Hid (∃ ts,ts.length=ss.length∧SqD (w5.setCell ⟨g,k*3+1,none⟩ (.int .i64 z)) w.heap.size (.slice (some ⟨g,0,none⟩) ss.length c1) ts∧Dr w0 (w5.setCell ⟨g,k*3+1,none⟩ (.int .i64 z)) B R a bs cap∧Only (fun k=>k=R) w (w5.setCell ⟨g,k*3+1,none⟩ (.int .i64 z))):=by
     have hog:Only (fun b=>b=g) w5 (w5.setCell ⟨g,k*3+1,none⟩ (.int .i64 z)):=(Only.refl (fun b=>b=g) w5).setCell (p:=⟨g,k*3+1,none⟩) (.inl rfl) _
     exact ⟨_,by simp,hsd.put1 k hk z hz2,hd5.other hog (by omega) (fun k hk=>by omega),((HS4.out.2.2.2.1.trans (hoa.mono (fun k _ hk=>hk.elim))).trans ho5).setCell (p:=⟨g,k*3+1,none⟩) (.inr (by simp only;omega)) _⟩
    clear hd5 ho5 hsd hli hfz hoa HIN HS4 hz hz2
    go_wp2
    go_ret
    obtain ⟨ts,e1,e2,e3,e4⟩:=HF.out
    exact ⟨some ⟨g,0,none⟩,c1,ts,congrArg (fun n=>Ending.returned (Value.slice (some ⟨g,0,none⟩) n c1)) e1.symm,by rw [e1];exact e2,e3,e4⟩
   ·have HIN:Hid (∀ T,Ins (w4.alloc (.cells #[.int .i64 0,.int .i64 1,.int .i64 5,.int .i64 64] T)) (some ⟨w4.heap.size,0,none⟩) [0,1,5,64]):=fun T=>by
     have:=ins_newN w4 T [0,1,5,64] (by intro z hz;simp at hz;omega)
     simpa using this
    have hoa:Only (fun _=>False) w4 (w4.alloc (.cells #[.int .i64 0,.int .i64 1,.int .i64 5,.int .i64 64] 3)):=(Only.refl _ _).alloc _
    go_wp2_with fail
    refine ((HS4.out.2.2.1.other hoa (by simp) (by simp)).pick w4.heap.size 4 [0,1,5,64] (HIN.out _) (by omega) (by simp) (by simp)).mono ?_
    rintro e w5 ⟨⟨z,hz,rfl⟩,hd5,ho5⟩
    have hz2:0≤z∧z≤64:=by simp at hz;omega
    have hsd:=(HS4.out.1.stay hoa (by simp)).stay ho5 (fun k hk e=>by omega)
    obtain ⟨hli,hfz,hg1,hg2⟩:=hsd.cells k hk
    have c2':=hli.c2
    have f2':=hfz (k*3+2)
    have HF:Hid (∃ ts,ts.length=ss.length∧SqD (w5.setCell ⟨g,k*3+2,none⟩ (.int .i64 z)) w.heap.size (.slice (some ⟨g,0,none⟩) ss.length c1) ts∧Dr w0 (w5.setCell ⟨g,k*3+2,none⟩ (.int .i64 z)) B R a bs cap∧Only (fun k=>k=R) w (w5.setCell ⟨g,k*3+2,none⟩ (.int .i64 z))):=by
     have hog:Only (fun b=>b=g) w5 (w5.setCell ⟨g,k*3+2,none⟩ (.int .i64 z)):=(Only.refl (fun b=>b=g) w5).setCell (p:=⟨g,k*3+2,none⟩) (.inl rfl) _
     exact ⟨_,by simp,hsd.put2 k hk z hz2,hd5.other hog (by omega) (fun k hk=>by omega),((HS4.out.2.2.2.1.trans (hoa.mono (fun k _ hk=>hk.elim))).trans ho5).setCell (p:=⟨g,k*3+2,none⟩) (.inr (by simp only;omega)) _⟩
    clear hd5 ho5 hsd hli hfz hoa HIN HS4 hz hz2
    go_wp2
    go_ret
    obtain ⟨ts,e1,e2,e3,e4⟩:=HF.out
    exact ⟨some ⟨g,0,none⟩,c1,ts,congrArg (fun n=>Ending.returned (Value.slice (some ⟨g,0,none⟩) n c1)) e1.symm,by rw [e1];exact e2,e3,e4⟩
   ·obtain ⟨hli,hfz,hg1,hg2⟩:=HS4.out.1.cells k hk
    have c0':=hli.c0
    have hsl:=(HS4.out.2.2.2.2.2 _ (getD_memS hk)).1
    have hmk:=HS4.out.1.lets _ (getD_memS hk)
    have hoa:Only (fun _=>False) w4 (w4.alloc (.cells #[.int .u8 9] 5)):=(Only.refl _ _).alloc _
    have HOV:Hid (OVB (w4.alloc (.cells #[.int .u8 9] 5)) w.heap.size (.slice (ss.getD k dq).a (ss.getD k dq).ls.length (ss.getD k dq).c) (ss.getD k dq).ls):=hmk.ovbQ.alloc _
    have HPL:Hid (∀ (W2:World) (v':Value),OVB W2 w.heap.size v' ((ss.getD k dq).ls++[9])→(w4.alloc (.cells #[.int .u8 9] 5)).grownBy W2 (Value.slice (ss.getD k dq).a (ss.getD k dq).ls.length (ss.getD k dq).c).ownBlock→W2.cell? ⟨g,k*3,none⟩=some (.slice (ss.getD k dq).a (ss.getD k dq).ls.length (ss.getD k dq).c)∧W2.frozen? ⟨g,k*3,none⟩=false∧∃ ts,ts.length=ss.length∧SqD (W2.setCell ⟨g,k*3,none⟩ v') w.heap.size (.slice (some ⟨g,0,none⟩) ss.length c1) ts∧Dr w0 (W2.setCell ⟨g,k*3,none⟩ v') B R a bs cap∧Only (fun k=>k=R) w (W2.setCell ⟨g,k*3,none⟩ v')):=fun W2 v' hv hgr=>by
     obtain ⟨p1,p2,ts,p0,p3⟩:=HS4.out.1.putL HS4.out.2.1 k hk hsl hoa hv hgr
     have hbl:∀ b,(Value.slice (ss.getD k dq).a (ss.getD k dq).ls.length (ss.getD k dq).c).ownBlock=some b→w.heap.size≤b:=fun b e=>by
      refine (hmk.rowB (k:=b) ?_).1
      cases ha:(ss.getD k dq).a with
      | none=>rw [ha] at e;simp [Value.ownBlock] at e
      | some x=>rw [ha] at e;exact ⟨x,rfl,by simpa [Value.ownBlock] using e⟩
     have hoT:Only (fun b=>w.heap.size≤b) w4 (W2.setCell ⟨g,k*3,none⟩ v'):=(((hoa.mono (fun b _ hb=>hb.elim)).trans ((Only.ofGrownQ hgr).mono (fun b _ hb=>hbl b hb)))).setCell (p:=⟨g,k*3,none⟩) (.inl hg1) _
     exact ⟨p1,p2,ts,p0,p3,HS4.out.2.2.1.other hoT (by omega) (fun k hk=>by omega),only_late HS4.out.2.2.2.1 hoT (fun i hi=>hi)⟩
    clear hli hmk hoa hfz hg1 hg2
    generalize (ss.getD k dq).ls=ls at *
    generalize (ss.getD k dq).a=la at *
    generalize (ss.getD k dq).c=lc at *
    go_wp2_with (at_builtin;(refine wpList_append_b1 rfl (.tmp 55) (.tmp 56) rfl w.heap.size (.slice la ls.length lc) ls rfl HOV.out w4.heap.size 1 9 rfl (by simp) (by omega) (by omega) (by have:=HS4.out.2.2.2.1.size;simp;omega) ?_);intro v5 w5 hown hgrow hat;obtain ⟨a5,n5,rfl⟩:=hown.form;obtain ⟨c5,f5,hts⟩:=HPL.out w5 _ hown hgrow;simp only [List.length_append,List.length_cons,List.length_nil,Nat.zero_add] at hts;have HF:Hid _:=hts;clear hown hgrow hat hts HPL HOV HS4)
    try go_wp2
    go_ret
    obtain ⟨ts,e1,e2,e3,e4⟩:=HF.out
    exact ⟨some ⟨g,0,none⟩,c1,ts,congrArg (fun n=>Ending.returned (Value.slice (some ⟨g,0,none⟩) n c1)) e1.symm,by rw [e1];exact e2,e3,e4⟩
   ·have HS5:Hid (SqD w4 w.heap.size (.slice (some ⟨g,0,none⟩) ss.length c1) ss∧Dr w0 w4 B R a bs cap∧Only (fun k=>k=R) w w4):=⟨HS4.out.1,HS4.out.2.2.1,HS4.out.2.2.2.1⟩
    clear HS4
    go_wp2
    go_loopw [3] (fun lv wr=>∃ (a5:Option Addr) (c5:Nat) (ts:List Sq),lv=.slice a5 ts.length c5∧SqD wr w.heap.size (.slice a5 ts.length c5) ts∧Dr w0 wr B R a bs cap∧Only (fun k=>k=R) w wr) (fun lv _=>65-slLen lv)
    case atStart=>exact ⟨_,c1,ss,rfl,HS5.out.1,HS5.out.2.1,HS5.out.2.2⟩
    case round=>
     obtain ⟨a5,c5,ts,rfl,hsd,hd5,ho5⟩:=hrel
     have HSR:Hid (SqD wr w.heap.size (.slice a5 ts.length c5) ts∧Dr w0 wr B R a bs cap∧Only (fun k=>k=R) w wr):=⟨hsd,hd5,ho5⟩
     have htl:=hsd.few.1
     clear hsd hd5 ho5
     go_wp2_with fail
     refine (HSR.out.2.1.below 2 (by omega) (by omega)).mono ?_
     rintro e w6 ⟨⟨y,hy1,hy2,rfl⟩,hd6,ho6⟩
     have HS6:Hid (SqD w6 w.heap.size (.slice a5 ts.length c5) ts∧Dr w0 w6 B R a bs cap∧Only (fun k=>k=R) w w6):=⟨HSR.out.1.stay ho6 (fun k hk e=>by omega),hd6,HSR.out.2.2.trans ho6⟩
     clear hd6 ho6 HSR
     by_cases hlt:(ts.length:Int)<40+y
     ·have hoA:Only (fun _=>False) w6 ((w6.alloc (.cells #[.int .u8 1] 5)).alloc (.cells #[.slice (some ⟨w6.heap.size,0,none⟩) 1 1,.int .i64 3,.int .i64 1] 37)):=((Only.refl _ _).alloc _).alloc _
      have hw6:w.heap.size≤w6.heap.size:=HS6.out.2.2.size
      have hm6:=(mine_one w6 w.heap.size hw6).allocM (.cells #[.slice (some ⟨w6.heap.size,0,none⟩) 1 1,.int .i64 3,.int .i64 1] 37)
      have HM6:Hid (Mine ((w6.alloc (.cells #[.int .u8 1] 5)).alloc (.cells #[.slice (some ⟨w6.heap.size,0,none⟩) 1 1,.int .i64 3,.int .i64 1] 37)) w.heap.size ((w6.alloc (.cells #[.int .u8 1] 5)).alloc (.cells #[.slice (some ⟨w6.heap.size,0,none⟩) 1 1,.int .i64 3,.int .i64 1] 37)).heap.size (some ⟨w6.heap.size,0,none⟩) 1 [1]):=hm6.mono nl (by simp)
      have HX:Hid (∀ j u,(Sq.mk (some ⟨w6.heap.size,0,none⟩) 1 [1] 3 1).cells[j]?=some u→((w6.alloc (.cells #[.int .u8 1] 5)).alloc (.cells #[.slice (some ⟨w6.heap.size,0,none⟩) 1 1,.int .i64 3,.int .i64 1] 37)).cell? ⟨w6.heap.size+1,j,none⟩=some u):=fun j u hj=>by
       have h9:=newsQ (w6.alloc (.cells #[.int .u8 1] 5)) (some ⟨w6.heap.size,0,none⟩) 1 1 3 1 37 (Sq.mk (some ⟨w6.heap.size,0,none⟩) 1 [1] 3 1) rfl rfl rfl rfl rfl j u hj
       simpa using h9
      have HRW:Hid (OVq ((w6.alloc (.cells #[.int .u8 1] 5)).alloc (.cells #[.slice (some ⟨w6.heap.size,0,none⟩) 1 1,.int .i64 3,.int .i64 1] 37)) w.heap.size (.slice a5 ts.length c5) ts):=HS6.out.1.row.stay hoA (by simp)
      have HOA:Hid (Only (fun _=>False) w6 ((w6.alloc (.cells #[.int .u8 1] 5)).alloc (.cells #[.slice (some ⟨w6.heap.size,0,none⟩) 1 1,.int .i64 3,.int .i64 1] 37))):=hoA
      clear hm6 hoA
      go_wp2_with (at_builtin;(refine wpList_append_sq rfl (.tmp 28) (.tmp 31) rfl w.heap.size (.slice a5 ts.length c5) ts rfl HRW.out (w6.heap.size+1) 1 ⟨some ⟨w6.heap.size,0,none⟩,1,[1],3,1⟩ (by simp [Act.eval]) HX.out (by omega) (by simp;omega) ?_);intro v7 w7 hown hgrow)
      have hsn:=HS6.out.1.snoc (s:=⟨some ⟨w6.heap.size,0,none⟩,1,[1],3,1⟩) HOA.out HM6.out hown hgrow (by omega) ⟨by simp,⟨by simp,by simp⟩,⟨by simp,by simp⟩⟩
      have hbl:∀ b,(Value.slice a5 ts.length c5).ownBlock=some b→w.heap.size≤b:=fun b e=>(HS6.out.1.row.blk e).1
      have hoT:Only (fun b=>(Value.slice a5 ts.length c5).ownBlock=some b) w6 w7:=(HOA.out.mono (fun b _ hb=>hb.elim)).trans (Only.ofGrownQ hgrow)
      obtain ⟨a7,c7,rfl⟩:=hsn.row.form
      have HS7:Hid (SqD w7 w.heap.size (.slice a7 (ts++[Sq.mk (some ⟨w6.heap.size,0,none⟩) 1 [1] 3 1]).length c7) (ts++[Sq.mk (some ⟨w6.heap.size,0,none⟩) 1 [1] 3 1])∧Dr w0 w7 B R a bs cap∧Only (fun k=>k=R) w w7):=⟨hsn,HS6.out.2.1.other hoT (fun e=>by have:=hbl _ e;omega) (fun k hk=>by have:=hbl _ hk;omega),only_late HS6.out.2.2 hoT (fun i hi=>hbl i hi)⟩
      clear hown hgrow hsn hoT hbl HOA HRW HX HM6
      go_roundw
      case rel=>exact ⟨a7,c7,_,rfl,HS7.out.1,HS7.out.2.1,HS7.out.2.2⟩
      case measure=>simp [slLen];omega
     ·go_wp2
      go_ret
      exact ⟨a5,c5,ts,rfl,HS6.out.1,HS6.out.2.1,HS6.out.2.2⟩
end Go.Proofs.YtfeokafkhnbdiaaGreatDoor
