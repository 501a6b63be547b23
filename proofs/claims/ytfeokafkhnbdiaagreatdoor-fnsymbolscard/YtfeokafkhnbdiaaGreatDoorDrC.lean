/- Lemmas on the way. -/
import Derived.Test.YtfeokafkhnbdiaaGreatDoorDrBy
import Derived.Test.YtfeokafkhnbdiaaGreatDoorFp1
import Derived.Test.YtfeokafkhnbdiaaGreatDoorBCut
set_option maxRecDepth 20000
set_option maxHeartbeats 16000000
namespace Go.Proofs.YtfeokafkhnbdiaaGreatDoor
open Go.RowKit
set_option linter.unusedVariables false
theorem Dr.belowBig {w0 w:World} {B R:Nat} {a:Option Addr} {bs:List Int} {cap:Nat} (h:Dr w0 w B R a bs cap) (n:Int) (hn:0<n) (hn2:n≤2147483648) :
  Calls Tryz.prog 51 #[.pointer (some ⟨R,0,none⟩),.int .i64 n] w fun e w'=>(∃ x:Int,0≤x∧x<n∧e=.returned (.int .i64 x))∧Dr w0 w' B R a bs cap∧Only (fun k=>k=R) w w':=by
 by_cases h256:n≤256
 ·exact h.below n hn h256
 ·have H:Hid (Dr w0 w B R a bs cap):=h
  clear h
  go_enter Tryz.func51,Tryz.ntmps51
  go_wp2_with fail
  refine H.out.byte.mono ?_
  rintro e w1 ⟨⟨x1,a1,b1,rfl⟩,hd1,ho1⟩
  have HD1:Hid _:=hd1
  clear hd1 H
  go_wp2_with fail
  refine HD1.out.byte.mono ?_
  rintro e w2 ⟨⟨x2,a2,b2,rfl⟩,hd2,ho2⟩
  have HD2:Hid _:=hd2
  have HO2:Hid (Only (fun k=>k=R) w w2):=ho1.trans ho2
  clear hd2 HD1 ho1 ho2
  go_wp2_with fail
  refine HD2.out.byte.mono ?_
  rintro e w3 ⟨⟨x3,a3,b3,rfl⟩,hd3,ho3⟩
  have HD3:Hid _:=hd3
  have HO3:Hid (Only (fun k=>k=R) w w3):=HO2.out.trans ho3
  clear hd3 HD2 ho3 HO2
  go_wp2_with fail
  refine HD3.out.byte.mono ?_
  rintro e w4 ⟨⟨x4,a4,b4,rfl⟩,hd4,ho4⟩
  have HD4:Hid _:=hd4
  have HO4:Hid (Only (fun k=>k=R) w w4):=HO3.out.trans ho4
  clear hd4 HD3 ho4 HO3
  go_wp2
  go_ret
  refine ⟨⟨_,?_,?_,rfl⟩,HD4.out,HO4.out⟩
  ·exact Int.emod_nonneg _ (by omega)
  ·exact Int.emod_lt_of_pos _ hn
theorem ins_newB (w:World) (T:TypeId) (l:List Int) (hr:∀ z ∈ l,-9223372036854775808≤z∧z≤9223372036854775807):Ins (w.alloc (.cells (l.map (Value.int .i64)).toArray T)) (some ⟨w.heap.size,0,none⟩) l:=by
 refine ⟨hr,fun _=>⟨w.heap.size,0,rfl,by simp,fun i hi=>?_⟩⟩
 rw [Nat.zero_add,cell_of_row _ _ _ _ _ _ (heap_alloc_new w (.cells (l.map (Value.int .i64)).toArray T))]
 simp [List.getElem?_eq_getElem hi]
theorem SI.only {w w':World} {B R n V:Nat} {S:Nat→Prop} (h:SI w B R n V) (ho:Only S w w') (hs:∀ k,B≤k→¬S k):SI w' B R n V:=by
 obtain ⟨v,hR,hv,hV,hBR,hB⟩:=h
 refine ⟨v,(ho.block R (Array.getElem?_eq_some_iff.1 hR).1 (hs R hBR)).trans hR,⟨⟨hv.1.1,?_⟩,hv.2⟩,hV,hBR,Nat.le_trans hB ho.size⟩
 rcases hv.1.2 with h' | ⟨g,cap,cur,h',hg,hh,r⟩
 ·exact .inl h'
 ·exact .inr ⟨g,cap,cur,h',hg,(ho.block g (Array.getElem?_eq_some_iff.1 hh).1 (hs g hg)).trans hh,r⟩
theorem below_only {w w':World} {B:Nat} (h:Below B w w'):Only (fun k=>B≤k) w w':=⟨h.os,h.tape,h.output,h.size,fun k hk hs=>h.block k (by omega)⟩
theorem wpowB (k:Nat) (h:k≤31):wrap64 (2 ^ k)=((2 ^ k:Nat):Int):=by
 have h2:2 ^ k≤2 ^ 31:=Nat.pow_le_pow_right (by omega) h
 have e:((2:Int) ^ k)=((2 ^ k:Nat):Int):=by simp
 rw [e]
 generalize 2 ^ k=P at *
 exact IntWalk.wrap64_in _ (by omega)
theorem Dr.bits {w0 w:World} {B R:Nat} {a:Option Addr} {bs:List Int} {cap:Nat} (h:Dr w0 w B R a bs cap) :
  Calls Tryz.prog 72 #[.pointer (some ⟨R,0,none⟩)] w fun e w'=>(∃ (a':Option Addr) (c' n V:Nat),e=.returned (.agg #[.slice a' (enc n V).length c',.int .i64 n])∧n≤88∧V<2 ^ n∧Mine w' w.heap.size w'.heap.size a' c' (enc n V))∧Dr w0 w' B R a bs cap∧Only (fun k=>k=R) w w':=by
 have hRl:=h.cur.lt
 have hBw:B≤w.heap.size:=by have:=h.bel.size;have:=h.hB;omega
 have hA:Only (fun _=>False) w ((w.alloc (Obj.cells #[.slice none 0 0,.int .i64 0] 40)).alloc (Obj.cells #[.slice none 0 0,.int .i64 0] 40)):=((Only.refl (fun _=>False) w).alloc _).alloc _
 have HD0:Hid (Dr w0 ((w.alloc (Obj.cells #[.slice none 0 0,.int .i64 0] 40)).alloc (Obj.cells #[.slice none 0 0,.int .i64 0] 40)) B R a bs cap):=h.other hA (by simp) (by simp)
 have hS0:=SI.new (w.alloc (Obj.cells #[.slice none 0 0,.int .i64 0] 40)) (w.heap.size+1) (by simp)
 simp only [World.size_alloc] at hS0
 have HS0:Hid (SI ((w.alloc (Obj.cells #[.slice none 0 0,.int .i64 0] 40)).alloc (Obj.cells #[.slice none 0 0,.int .i64 0] 40)) (w.heap.size+1) (w.heap.size+1) 0 0):=hS0
 have HP0:Hid (((w.alloc (Obj.cells #[.slice none 0 0,.int .i64 0] 40)).alloc (Obj.cells #[.slice none 0 0,.int .i64 0] 40)).heap[w.heap.size]?=some (.cells #[.slice none 0 0,.int .i64 0] 40 (0,0))):=(Below.heap_alloc _ _ _ (by simp)).trans (heap_alloc_new w _)
 have HO0:Hid (Only (fun k=>k=R) w ((w.alloc (Obj.cells #[.slice none 0 0,.int .i64 0] 40)).alloc (Obj.cells #[.slice none 0 0,.int .i64 0] 40))):=((Only.refl (fun k=>k=R) w).alloc _).alloc _
 clear hA hS0 h
 go_enter Tryz.func72,Tryz.ntmps72
 go_wp2_with fail
 generalize (w.alloc (Obj.cells #[.slice none 0 0,.int .i64 0] 40)).alloc (Obj.cells #[.slice none 0 0,.int .i64 0] 40)=W at *
 refine (HD0.out.below 9 (by omega) (by omega)).mono ?_
 rintro e w1 ⟨⟨m,hm1,hm2,rfl⟩,hd1,ho1⟩
 obtain ⟨M,rfl⟩:=Int.eq_ofNat_of_zero_le hm1
 have HD1:Hid (Dr w0 w1 B R a bs cap):=hd1
 have HS1:Hid (SI w1 (w.heap.size+1) (w.heap.size+1) 0 0):=HS0.out.only ho1 (fun k hk=>by omega)
 have HP1:Hid (w1.heap[w.heap.size]?=some (.cells #[.slice none 0 0,.int .i64 0] 40 (0,0))):=(ho1.block _ (Array.getElem?_eq_some_iff.1 HP0.out).1 (by omega)).trans HP0.out
 have HO1:Hid (Only (fun k=>k=R) w w1):=HO0.out.trans ho1
 clear hd1 ho1 HD0 HS0 HP0 HO0 hm1
 go_wp2
 go_loopw [5] (fun i wr=>∃ (k n V:Nat),k≤M∧i=.int .i64 k∧n≤11*k∧SI wr (w.heap.size+1) (w.heap.size+1) n V∧Dr w0 wr B R a bs cap∧wr.heap[w.heap.size]?=some (.cells #[.slice none 0 0,.int .i64 0] 40 (0,0))∧Only (fun k=>k=R) w wr) (fun i _=>M-(intOf i).toNat)
 case atStart=>exact ⟨0,0,0,Nat.zero_le _,rfl,Nat.le_refl _,HS1.out,HD1.out,HP1.out,HO1.out⟩
 case round=>
  clear HD1 HS1 HP1 HO1
  obtain ⟨k,n,V,hk,rfl,hnk,hsi,hdr,hp,hon⟩:=hrel
  have HS:Hid (SI wr (w.heap.size+1) (w.heap.size+1) n V):=hsi
  have HD:Hid (Dr w0 wr B R a bs cap):=hdr
  have HP:Hid (wr.heap[w.heap.size]?=some (.cells #[.slice none 0 0,.int .i64 0] 40 (0,0))):=hp
  have HO:Hid (Only (fun k=>k=R) w wr):=hon
  have hzw:w.heap.size<wr.heap.size:=(Array.getElem?_eq_some_iff.1 hp).1
  clear hsi hdr hp hon
  by_cases hlt:k<M
  ·go_wp2_with fail
   refine (HD.out.below 12 (by omega) (by omega)).mono ?_
   rintro e w2 ⟨⟨y,hy1,hy2,rfl⟩,hd2,ho2⟩
   obtain ⟨Y,rfl⟩:=Int.eq_ofNat_of_zero_le hy1
   have HD2:Hid _:=hd2
   have HS2:Hid (SI w2 (w.heap.size+1) (w.heap.size+1) n V):=HS.out.only ho2 (fun k hk=>by omega)
   have HP2:Hid (w2.heap[w.heap.size]?=some (.cells #[.slice none 0 0,.int .i64 0] 40 (0,0))):=(ho2.block _ hzw (by omega)).trans HP.out
   have HO2:Hid (Only (fun k=>k=R) w w2):=HO.out.trans ho2
   have hz2:w.heap.size<w2.heap.size:=Nat.lt_of_lt_of_le hzw ho2.size
   have HWP:=wpowB Y (by omega)
   have hpb:2 ^ Y≤2 ^ 11:=Nat.pow_le_pow_right (by omega) (by omega)
   have hpp:0<2 ^ Y:=Nat.pow_pos (by omega)
   have HPW:Hid (((2:Int) ^ (Y:Int).toNat)=((2 ^ Y:Nat):Int)):=by unfold Hid;simp
   have HBB:=HD2.out.belowBig (wrap64 (2 ^ Y)) (by rw [HWP];omega) (by rw [HWP];omega)
   have HWP':Hid _:=HWP
   clear hd2 ho2 HD HS HP HO hy1 HWP
   go_wp2_with fail
   refine HBB.mono ?_
   clear HBB
   rintro e w3 ⟨⟨x,hx1,hx2,rfl⟩,hd3,ho3⟩
   rw [HWP'.out] at hx2
   have HD3:Hid _:=hd3
   have hS3:SI w3 (w.heap.size+1) (w.heap.size+1) n V:=HS2.out.only ho3 (fun k hk=>by omega)
   have HP3:Hid (w3.heap[w.heap.size]?=some (.cells #[.slice none 0 0,.int .i64 0] 40 (0,0))):=(ho3.block _ hz2 (by omega)).trans HP2.out
   have HO3:Hid (Only (fun k=>k=R) w w3):=HO2.out.trans ho3
   have hz3:w.heap.size<w3.heap.size:=Nat.lt_of_lt_of_le hz2 ho3.size
   have HPUT:=hS3.put x (Y:Int) hx1 (by omega) (by omega) (by rw [HPW.out];exact hx2) (by omega)
   clear hd3 ho3 hS3 HS2 HD2 HP2 HO2
   go_wp2_with fail
   refine HPUT.mono ?_
   clear HPUT
   rintro e w4 ⟨rfl,hs4,hb4⟩
   have ho4:=below_only hb4
   have HS4:Hid (SI w4 (w.heap.size+1) (w.heap.size+1) (n+Y) (V+x.toNat*2 ^ n)):=by simpa [Hid] using hs4
   have HD4:Hid (Dr w0 w4 B R a bs cap):=HD3.out.other ho4 (by omega) (fun k hk=>by omega)
   have HP4:Hid (w4.heap[w.heap.size]?=some (.cells #[.slice none 0 0,.int .i64 0] 40 (0,0))):=(ho4.block _ hz3 (by omega)).trans HP3.out
   have HO4:Hid (Only (fun k=>k=R) w w4):=by
    have h3:=HO3.out
    exact ⟨ho4.os.trans h3.os,ho4.tape.trans h3.tape,ho4.output.trans h3.output,Nat.le_trans h3.size ho4.size,fun j hj hs=>(ho4.block j (Nat.lt_of_lt_of_le hj h3.size) (by omega)).trans (h3.block j hj hs)⟩
   clear hs4 hb4 ho4 HD3 HP3 HO3
   go_wp2
   go_roundw
   case rel=>exact ⟨k+1,n+Y,_,by omega,by go_num,by omega,HS4.out,HD4.out,HP4.out,HO4.out⟩
   case measure=>simp [intOf];omega
  ·have hkm:k=M:=by omega
   subst hkm
   obtain ⟨a',c',x0,x1,hmn⟩:=HS.out.cells
   have hVn:V<2 ^ n:=by obtain ⟨v,_,_,h,_⟩:=HS.out;exact h
   have p0:wr.cell? ⟨w.heap.size,0,none⟩=some (.slice none 0 0):=cellC (j:=0) HP.out rfl
   have p1:wr.cell? ⟨w.heap.size,1,none⟩=some (.int .i64 0):=cellC (j:=1) HP.out rfl
   have q0:wr.frozen? ⟨w.heap.size,0,none⟩=false:=frozen_of_row wr _ 0 _ _ HP.out
   have q1:wr.frozen? ⟨w.heap.size,1,none⟩=false:=frozen_of_row wr _ 1 _ _ HP.out
   have HMN:Hid (Mine wr (w.heap.size+1) wr.heap.size a' c' (enc n V)):=hmn
   have HVN:Hid (V<2 ^ n):=hVn
   have hdo:∀ (v0 v1:Value),Only (fun b=>b=w.heap.size) wr ((wr.setCell ⟨w.heap.size,0,none⟩ v0).setCell ⟨w.heap.size,1,none⟩ v1):=fun v0 v1=>((Only.refl (fun b=>b=w.heap.size) wr).setCell (p:=⟨w.heap.size,0,none⟩) (.inl rfl) _).setCell (p:=⟨w.heap.size,1,none⟩) (.inl rfl) _
   have HDO:Hid _:=hdo
   clear hmn hVn HS hdo
   go_wp2
   refine bodyPost_ret (v:=.agg #[.slice a' (enc n V).length c',.int .i64 n]) (by simp [results,Tryz.results72,go_sem,p0,p1]) rfl ⟨⟨a',c',n,V,rfl,by omega,HVN.out,mine_out _ _ HMN.out (by omega) nl⟩,?_,?_⟩
   ·exact HD.out.other (HDO.out _ _) (by omega) (fun k hk=>by omega)
   ·have h3:=HO.out
    have ho4:=HDO.out (.slice a' (enc n V).length c') (.int .i64 n)
    exact ⟨ho4.os.trans h3.os,ho4.tape.trans h3.tape,ho4.output.trans h3.output,Nat.le_trans h3.size ho4.size,fun j hj hs=>(ho4.block j (Nat.lt_of_lt_of_le hj h3.size) (by omega)).trans (h3.block j hj hs)⟩
structure BV (w:World) (C X:Nat) (a:Option Addr) (c:Nat) (ys:List Int) (N:Int):Prop where
 hX:w.heap[X]?=some (.cells #[.slice a ys.length c,.int .i64 N] 40 (0,0))
 own:OVB w C (.slice a ys.length c) ys
theorem Mine.ovb {w:World} {B U:Nat} {a:Option Addr} {c:Nat} {zs:List Int} (h:Mine w B U a c zs):OVB w B (.slice a zs.length c) zs:=by
 rcases h with ⟨rfl,rfl,rfl⟩ | ⟨g,rfl,_,_,h⟩
 ·exact OVB.nil _ _
 ·exact h
theorem BV.only {w w':World} {C X:Nat} {a:Option Addr} {c:Nat} {ys:List Int} {N:Int} {S:Nat→Prop} (h:BV w C X a c ys N) (ho:Only S w w') (hX:C≤X) (hs:∀ k,C≤k→¬S k):BV w' C X a c ys N:=
 ⟨(ho.block X (Array.getElem?_eq_some_iff.1 h.hX).1 (hs X hX)).trans h.hX,h.own.stay ho hs⟩
theorem BV.mine {w:World} {C X:Nat} {a:Option Addr} {c:Nat} {ys:List Int} {N:Int} (h:BV w C X a c ys N):Mine w C w.heap.size a c ys:=by
 obtain ⟨a',c',e,hm⟩:=h.own.mine
 obtain ⟨rfl,rfl⟩:a=a'∧c=c':=by simpa using e
 exact hm
theorem rowStayV {w w':World} {B:Nat} {T:TypeId} {sz:Nat} {v:Value} {n:Nat} {xs:List Value} {S:Nat→Prop} (h:w.ownsRow B T sz v n xs) (ho:Only S w w') (hs:∀ k,v.ownBlock=some k→¬S k):w'.ownsRow B T sz v n xs:=by
 refine ⟨h.1,?_⟩
 rcases h.2 with h' | ⟨g,cap,cur,rfl,hg,hh,r⟩
 ·exact .inl h'
 ·exact .inr ⟨g,cap,cur,rfl,hg,(ho.block g (Array.getElem?_eq_some_iff.1 hh).1 (hs g rfl)).trans hh,r⟩
theorem only_chain {w w1 w2:World} {R P:Nat} (h1:Only (fun k=>k=R) w w1) (hP:w.heap.size≤P) (h2:Only (fun k=>P≤k) w1 w2):Only (fun k=>k=R) w w2:=
 ⟨h2.os.trans h1.os,h2.tape.trans h1.tape,h2.output.trans h1.output,Nat.le_trans h1.size h2.size,fun j hj hs=>(h2.block j (Nat.lt_of_lt_of_le hj h1.size) (by omega)).trans (h1.block j hj hs)⟩
theorem bent_end {w w0 wr:World} {B R:Nat} {a:Option Addr} {bs:List Int} {cap X:Nat} {a':Option Addr} {c':Nat} {ys:List Int} {N:Int} (hR:R<w.heap.size) (hBw:B≤w.heap.size) (hv:BV wr (w.heap.size+1) X a' c' ys N) (hd:Dr w0 wr B R a bs cap) (ho:Only (fun k=>k=R) w wr) (v0 v1:Value) :
  Mine ((wr.setCell ⟨w.heap.size,0,none⟩ v0).setCell ⟨w.heap.size,1,none⟩ v1) w.heap.size ((wr.setCell ⟨w.heap.size,0,none⟩ v0).setCell ⟨w.heap.size,1,none⟩ v1).heap.size a' c' ys∧Dr w0 ((wr.setCell ⟨w.heap.size,0,none⟩ v0).setCell ⟨w.heap.size,1,none⟩ v1) B R a bs cap∧Only (fun k=>k=R) w ((wr.setCell ⟨w.heap.size,0,none⟩ v0).setCell ⟨w.heap.size,1,none⟩ v1):=by
 have hdo:Only (fun b=>b=w.heap.size) wr ((wr.setCell ⟨w.heap.size,0,none⟩ v0).setCell ⟨w.heap.size,1,none⟩ v1):=((Only.refl (fun b=>b=w.heap.size) wr).setCell (p:=⟨w.heap.size,0,none⟩) (.inl rfl) _).setCell (p:=⟨w.heap.size,1,none⟩) (.inl rfl) _
 refine ⟨mine_out _ _ hv.mine (by omega) nl,hd.other hdo (by omega) (fun k hk=>by omega),?_⟩
 exact only_chain ho nl (hdo.mono (fun k _ hk=>by omega))
theorem Dr.bent {w0 w:World} {B R:Nat} {a:Option Addr} {bs:List Int} {cap:Nat} (h:Dr w0 w B R a bs cap) :
  Calls Tryz.prog 53 #[.pointer (some ⟨R,0,none⟩)] w fun e w'=>(∃ (a':Option Addr) (c':Nat) (ys:List Int) (N:Int),e=.returned (.agg #[.slice a' ys.length c',.int .i64 N])∧ys.length≤600∧-1≤N∧N≤4097∧Mine w' w.heap.size w'.heap.size a' c' ys)∧Dr w0 w' B R a bs cap∧Only (fun k=>k=R) w w':=by
 obtain ⟨i0,hi,hz0,hz1,hz2⟩:=info_parts Tryz.infoU8
 have hRl:=h.cur.lt
 have hBw:B≤w.heap.size:=by have:=h.bel.size;have:=h.hB;omega
 have HD0:Hid (Dr w0 (w.alloc (Obj.cells #[.slice none 0 0,.int .i64 0] 40)) B R a bs cap):=h.other ((Only.refl (fun _=>False) w).alloc _) (by simp) (by simp)
 have HP0:Hid ((w.alloc (Obj.cells #[.slice none 0 0,.int .i64 0] 40)).heap[w.heap.size]?=some (.cells #[.slice none 0 0,.int .i64 0] 40 (0,0))):=heap_alloc_new w _
 have HO0:Hid (Only (fun k=>k=R) w (w.alloc (Obj.cells #[.slice none 0 0,.int .i64 0] 40))):=(Only.refl (fun k=>k=R) w).alloc _
 have HZ0:Hid ((w.alloc (Obj.cells #[.slice none 0 0,.int .i64 0] 40)).heap.size=w.heap.size+1):=by simp [Hid]
 clear h
 go_enter Tryz.func53,Tryz.ntmps53
 go_wp2_with fail
 generalize w.alloc (Obj.cells #[.slice none 0 0,.int .i64 0] 40)=W at *
 refine HD0.out.bits.mono ?_
 rintro e w1 ⟨⟨a1,c1,n,V,rfl,hn,hV,hm1⟩,hd1,ho1⟩
 have hel:=enc_len n V
 have hyl:(enc n V).length≤20:=by omega
 rw [HZ0.out] at hm1
 generalize enc n V=ys at *
 have hz1s:w.heap.size+1≤w1.heap.size:=by have h1:=ho1.size;have h2:=HZ0.out;omega
 have HV1:Hid (BV (w1.alloc (Obj.cells #[.slice a1 ys.length c1,.int .i64 n] 40)) (w.heap.size+1) w1.heap.size a1 c1 ys n):=⟨heap_alloc_new w1 _,hm1.ovb.alloc _⟩
 have HD1:Hid (Dr w0 (w1.alloc (Obj.cells #[.slice a1 ys.length c1,.int .i64 n] 40)) B R a bs cap):=hd1.other ((Only.refl (fun _=>False) w1).alloc _) (by simp) (by simp)
 have HP1:Hid ((w1.alloc (Obj.cells #[.slice a1 ys.length c1,.int .i64 n] 40)).heap[w.heap.size]?=some (.cells #[.slice none 0 0,.int .i64 0] 40 (0,0))):=(Below.heap_alloc _ _ _ (by omega)).trans ((ho1.block _ (Array.getElem?_eq_some_iff.1 HP0.out).1 (by omega)).trans HP0.out)
 have HO1:Hid (Only (fun k=>k=R) w (w1.alloc (Obj.cells #[.slice a1 ys.length c1,.int .i64 n] 40))):=(HO0.out.trans ho1).alloc _
 clear hd1 ho1 hm1 hV hel HD0 HP0 HO0 HZ0
 go_wp2_with fail
 generalize w1.alloc (Obj.cells #[.slice a1 ys.length c1,.int .i64 n] 40)=W1 at *
 generalize w1.heap.size=X at *
 have hXW:X<W1.heap.size:=(Array.getElem?_eq_some_iff.1 HV1.out.hX).1
 refine (HD1.out.once 9 (by omega) (by omega)).mono ?_
 rintro e w2 ⟨⟨b,rfl⟩,hd2,ho2⟩
 have HV2:Hid (BV w2 (w.heap.size+1) X a1 c1 ys n):=HV1.out.only ho2 (by omega) (fun k hk=>by omega)
 have HD2:Hid (Dr w0 w2 B R a bs cap):=hd2
 have HP2:Hid (w2.heap[w.heap.size]?=some (.cells #[.slice none 0 0,.int .i64 0] 40 (0,0))):=(ho2.block _ (Array.getElem?_eq_some_iff.1 HP1.out).1 (by omega)).trans HP1.out
 have HO2:Hid (Only (fun k=>k=R) w w2):=HO1.out.trans ho2
 have hXs:X<w2.heap.size:=Nat.lt_of_lt_of_le hXW ho2.size
 clear hd2 ho2 HV1 HD1 HP1 HO1 hXW
 have fin:∀ (wr:World) (a':Option Addr) (c':Nat) (ys':List Int) (N':Int),BV wr (w.heap.size+1) X a' c' ys' N'→Dr w0 wr B R a bs cap→Only (fun k=>k=R) w wr→wr.heap[w.heap.size]?=some (.cells #[.slice none 0 0,.int .i64 0] 40 (0,0))→True:=fun _ _ _ _ _ _ _ _ _=>trivial
 clear fin
 cases b
 ·have x0:w2.cell? ⟨X,0,none⟩=some (.slice a1 ys.length c1):=cellC (j:=0) HV2.out.hX rfl
  have x1:w2.cell? ⟨X,1,none⟩=some (.int .i64 n):=cellC (j:=1) HV2.out.hX rfl
  have p0:w2.cell? ⟨w.heap.size,0,none⟩=some (.slice none 0 0):=cellC (j:=0) HP2.out rfl
  have p1:w2.cell? ⟨w.heap.size,1,none⟩=some (.int .i64 0):=cellC (j:=1) HP2.out rfl
  have q0:w2.frozen? ⟨w.heap.size,0,none⟩=false:=frozen_of_row w2 _ 0 _ _ HP2.out
  have q1:w2.frozen? ⟨w.heap.size,1,none⟩=false:=frozen_of_row w2 _ 1 _ _ HP2.out
  go_wp2
  obtain ⟨e1,e2,e3⟩:=bent_end hRl.2 hBw HV2.out HD2.out HO2.out (.slice a1 ys.length c1) (.int .i64 n)
  refine bodyPost_ret (v:=.agg #[.slice a1 ys.length c1,.int .i64 n]) (by simp [results,Tryz.results53,go_sem,p0,p1]) rfl ⟨⟨a1,c1,ys,n,rfl,by omega,by omega,by omega,e1⟩,e2,e3⟩
 ·go_wp2_with fail
  refine (HD2.out.below 4 (by omega) (by omega)).mono ?_
  rintro e w3 ⟨⟨y,hy1,hy2,rfl⟩,hd3,ho3⟩
  have HV3:Hid (BV w3 (w.heap.size+1) X a1 c1 ys n):=HV2.out.only ho3 (by omega) (fun k hk=>by omega)
  have HD3:Hid (Dr w0 w3 B R a bs cap):=hd3
  have HP3:Hid (w3.heap[w.heap.size]?=some (.cells #[.slice none 0 0,.int .i64 0] 40 (0,0))):=(ho3.block _ (Array.getElem?_eq_some_iff.1 HP2.out).1 (by omega)).trans HP2.out
  have HO3:Hid (Only (fun k=>k=R) w w3):=HO2.out.trans ho3
  have hX3:X<w3.heap.size:=Nat.lt_of_lt_of_le hXs ho3.size
  clear hd3 ho3 HV2 HD2 HP2 HO2 hXs
  have x0:w3.cell? ⟨X,0,none⟩=some (.slice a1 ys.length c1):=cellC (j:=0) HV3.out.hX rfl
  have x1:w3.cell? ⟨X,1,none⟩=some (.int .i64 n):=cellC (j:=1) HV3.out.hX rfl
  have y0:w3.frozen? ⟨X,0,none⟩=false:=frozen_of_row w3 _ 0 _ _ HV3.out.hX
  have y1:w3.frozen? ⟨X,1,none⟩=false:=frozen_of_row w3 _ 1 _ _ HV3.out.hX
  have hcase:y=0∨y=1∨y=2∨y=3:=by omega
  clear hy1 hy2
  have hPX:w.heap.size≠X:=by omega
  have hXP:X≠w.heap.size:=by omega
  have p0:w3.cell? ⟨w.heap.size,0,none⟩=some (.slice none 0 0):=cellC (j:=0) HP3.out rfl
  have p1:w3.cell? ⟨w.heap.size,1,none⟩=some (.int .i64 0):=cellC (j:=1) HP3.out rfl
  have q0:w3.frozen? ⟨w.heap.size,0,none⟩=false:=frozen_of_row w3 _ 0 _ _ HP3.out
  have q1:w3.frozen? ⟨w.heap.size,1,none⟩=false:=frozen_of_row w3 _ 1 _ _ HP3.out
  have hP3:w.heap.size<w3.heap.size:=(Array.getElem?_eq_some_iff.1 HP3.out).1
  rcases hcase with rfl | rfl | rfl | rfl
  ·have HIN:Hid (∀ T,Ins (w3.alloc (.cells #[.int .i64 (-1),.int .i64 ((n:Int)+1),.int .i64 4097] T)) (some ⟨w3.heap.size,0,none⟩) [-1,(n:Int)+1,4097]):=fun T=>by
    have:=ins_newB w3 T [-1,(n:Int)+1,4097] (by intro z hz;simp at hz;omega)
    simpa using this
   go_wp2_with fail
   refine ((HD3.out.other (S:=fun _=>False) ((Only.refl (fun _=>False) w3).alloc _) (by simp) (by simp)).pick w3.heap.size 3 [-1,(n:Int)+1,4097] (HIN.out _) (by omega) (by simp) (by simp)).mono ?_
   rintro e w4 ⟨⟨t,ht,rfl⟩,hd4,ho4'⟩
   have ho4:Only (fun k=>k=R) w3 w4:=((Only.refl (fun k=>k=R) w3).alloc _).trans ho4'
   have hv4:BV w4 (w.heap.size+1) X a1 c1 ys n:=HV3.out.only ho4 (by omega) (fun k hk=>by omega)
   have hp4:w4.heap[w.heap.size]?=some (.cells #[.slice none 0 0,.int .i64 0] 40 (0,0)):=(ho4.block _ hP3 (by omega)).trans HP3.out
   have HTR:Hid (-1≤t∧t≤4097):=by unfold Hid;simp at ht;omega
   clear x0 x1 y0 y1 p0 p1 q0 q1 ht
   have x0:w4.cell? ⟨X,0,none⟩=some (.slice a1 ys.length c1):=cellC (j:=0) hv4.hX rfl
   have x1:w4.cell? ⟨X,1,none⟩=some (.int .i64 n):=cellC (j:=1) hv4.hX rfl
   have y1:w4.frozen? ⟨X,1,none⟩=false:=frozen_of_row w4 _ 1 _ _ hv4.hX
   have p0:w4.cell? ⟨w.heap.size,0,none⟩=some (.slice none 0 0):=cellC (j:=0) hp4 rfl
   have p1:w4.cell? ⟨w.heap.size,1,none⟩=some (.int .i64 0):=cellC (j:=1) hp4 rfl
   have q0:w4.frozen? ⟨w.heap.size,0,none⟩=false:=frozen_of_row w4 _ 0 _ _ hp4
   have q1:w4.frozen? ⟨w.heap.size,1,none⟩=false:=frozen_of_row w4 _ 1 _ _ hp4
   have hon5:Only (fun k=>k=X) w4 (w4.setCell ⟨X,1,none⟩ (.int .i64 t)):=(Only.refl (fun k=>k=X) w4).setCell (p:=⟨X,1,none⟩) (.inl rfl) _
   have hneX:some X≠(Value.slice a1 ys.length c1).ownBlock:=hv4.own.blk_ne hv4.hX (by decide)
   have HV5:Hid (BV (w4.setCell ⟨X,1,none⟩ (.int .i64 t)) (w.heap.size+1) X a1 c1 ys t):=by
    refine ⟨?_,⟨rowStayV hv4.own.1 hon5 (fun k hk e=>hneX (by rw [hk,e])),hv4.own.2⟩⟩
    rw [heap_setCell_same _ X 1 _ _ _ hv4.hX]
    simp
   have HD5:Hid (Dr w0 (w4.setCell ⟨X,1,none⟩ (.int .i64 t)) B R a bs cap):=hd4.other hon5 (by omega) (fun k hk=>by omega)
   have HO5:Hid (Only (fun k=>k=R) w (w4.setCell ⟨X,1,none⟩ (.int .i64 t))):=only_chain (P:=w.heap.size) (HO3.out.trans ho4) nl (hon5.mono (fun k _ hk=>by omega))
   clear hv4 hp4 hd4 ho4 ho4' hon5 hneX HV3 HD3 HP3 HO3 HIN
   go_wp2
   obtain ⟨e1,e2,e3⟩:=bent_end hRl.2 hBw HV5.out HD5.out HO5.out (.slice a1 ys.length c1) (.int .i64 t)
   refine bodyPost_ret (v:=.agg #[.slice a1 ys.length c1,.int .i64 t]) (by simp [results,Tryz.results53,go_sem,p0,p1]) rfl ⟨⟨a1,c1,ys,t,rfl,by omega,HTR.out.1,HTR.out.2,e1⟩,e2,e3⟩
  ·have hXA:(w3.alloc (Obj.cells #[.int .u8 0] 5)).heap[X]?=some (.cells #[.slice a1 ys.length c1,.int .i64 n] 40 (0,0)):=(Below.heap_alloc _ _ _ hX3).trans HV3.out.hX
   have hPA:(w3.alloc (Obj.cells #[.int .u8 0] 5)).heap[w.heap.size]?=some (.cells #[.slice none 0 0,.int .i64 0] 40 (0,0)):=(Below.heap_alloc _ _ _ hP3).trans HP3.out
   have HXA:Hid _:=hXA
   have HPA:Hid _:=hPA
   have HOA:Hid (OVB (w3.alloc (Obj.cells #[.int .u8 0] 5)) (w.heap.size+1) (.slice a1 ys.length c1) ys):=HV3.out.own.alloc _
   have HYA:Hid (Byt (w3.alloc (Obj.cells #[.int .u8 0] 5)) (some ⟨w3.heap.size,0,none⟩) [0]):=byt_one w3 0 (by omega)
   have hza:w.heap.size+1≤(w3.alloc (Obj.cells #[.int .u8 0] 5)).heap.size:=by simp;omega
   clear hXA hPA
   go_wp2_with (at_builtin;(refine wpList_append_byt rfl (.tmp 32) (.tmp 33) rfl (w.heap.size+1) (.slice a1 ys.length c1) ys rfl HOA.out (some ⟨w3.heap.size,0,none⟩) 1 [0] rfl HYA.out (by simp;omega) hza ?_;intro v1 w4 hov1 hgr1;obtain ⟨a2,c2,rfl⟩:=hov1.form;have hX4:=grown_blk hgr1 HXA.out (HOA.out.blk_ne HXA.out (by decide));have hP4:=grown_blk hgr1 HPA.out (HOA.out.blk_ne HPA.out (by decide));have u0:w4.cell? ⟨X,0,none⟩=some (.slice a1 ys.length c1):=cellC (j:=0) hX4 rfl;have u1:w4.cell? ⟨X,1,none⟩=some (.int .i64 n):=cellC (j:=1) hX4 rfl;have g0:w4.frozen? ⟨X,0,none⟩=false:=frozen_of_row w4 _ 0 _ _ hX4;have m0:w4.cell? ⟨w.heap.size,0,none⟩=some (.slice none 0 0):=cellC (j:=0) hP4 rfl;have m1:w4.cell? ⟨w.heap.size,1,none⟩=some (.int .i64 0):=cellC (j:=1) hP4 rfl;have k0:w4.frozen? ⟨w.heap.size,0,none⟩=false:=frozen_of_row w4 _ 0 _ _ hP4;have k1:w4.frozen? ⟨w.heap.size,1,none⟩=false:=frozen_of_row w4 _ 1 _ _ hP4))
   generalize hE:ys++[0]=E at *
   have hEl:E.length=ys.length+1:=by rw [←hE];simp
   rw [hEl] at hov1
   have hneX:some X≠(Value.slice a2 (ys.length+1) c2).ownBlock:=hov1.blk_ne hX4 (by decide)
   have hon5:Only (fun k=>k=X) w4 (w4.setCell ⟨X,0,none⟩ (.slice a2 (ys.length+1) c2)):=(Only.refl (fun k=>k=X) w4).setCell (p:=⟨X,0,none⟩) (.inl rfl) _
   have ho4:Only (fun k=>w.heap.size+1≤k) w3 w4:=((Only.refl (fun k=>w.heap.size+1≤k) w3).alloc _).grown hgr1 (fun k hk=>.inl (HOA.out.blk hk))
   have HV5:BV (w4.setCell ⟨X,0,none⟩ (.slice a2 (ys.length+1) c2)) (w.heap.size+1) X a2 c2 E n:=by
    refine ⟨?_,by rw [hEl];exact ⟨rowStayV hov1.1 hon5 (fun k hk e=>hneX (by rw [hk,e])),hov1.2⟩⟩
    rw [heap_setCell_same _ X 0 _ _ _ hX4,hEl]
    simp
   have HD5:Dr w0 (w4.setCell ⟨X,0,none⟩ (.slice a2 (ys.length+1) c2)) B R a bs cap:=(HD3.out.other ho4 (by omega) (fun k hk=>by omega)).other hon5 (by omega) (fun k hk=>by omega)
   have HO5:Only (fun k=>k=R) w (w4.setCell ⟨X,0,none⟩ (.slice a2 (ys.length+1) c2)):=only_chain (P:=w.heap.size) (only_chain (P:=w.heap.size) HO3.out nl (ho4.mono (fun k _ hk=>by omega))) nl (hon5.mono (fun k _ hk=>by omega))
   obtain ⟨e1,e2,e3⟩:=bent_end hRl.2 hBw HV5 HD5 HO5 (.slice a2 (ys.length+1) c2) (.int .i64 n)
   refine bodyPost_ret (v:=.agg #[.slice a2 (ys.length+1) c2,.int .i64 n]) (by simp [results,Tryz.results53,go_sem,m0,m1]) rfl ⟨⟨a2,c2,E,n,by rw [hEl],by omega,by omega,by omega,e1⟩,e2,e3⟩
  ·by_cases hy0:0<ys.length
   ·obtain ⟨g,hag,hog⟩:∃ g,a1=some ⟨g,0,none⟩∧Own w3 (w.heap.size+1) g c1 ys:=by
     rcases HV3.out.mine with ⟨_,h',_⟩ | ⟨g,h1,_,_,h4⟩
     ·rw [h'] at hy0;simp at hy0
     ·exact ⟨g,h1,h4⟩
    subst hag
    obtain ⟨L,hL⟩:∃ L,ys.length=L+1:=⟨ys.length-1,by omega⟩
    have hgl:=hog.lt
    have hgX:g≠X:=fun e=>(HV3.out.own.blk_ne HV3.out.hX (by decide)) (by simp [Value.ownBlock,e])
    have z0:=hog.cell L (by omega)
    have zf:=hog.frozen L
    have hst:=hog.store L 255 (by omega)
    have hon5:Only (fun k=>k=g) w3 (w3.setCell ⟨g,L,none⟩ (.int .u8 255)):=(Only.refl (fun k=>k=g) w3).setCell (p:=⟨g,L,none⟩) (.inl rfl) _
    have hsl:(ys.set L 255).length=L+1:=by rw [List.length_set];exact hL
    have HV5:Hid (BV (w3.setCell ⟨g,L,none⟩ (.int .u8 255)) (w.heap.size+1) X (some ⟨g,0,none⟩) c1 (ys.set L 255) n):=by
     refine ⟨?_,hst⟩
     rw [hsl,←hL,Below.heap_setCell _ _ _ _ (by simpa using hgX.symm)]
     exact HV3.out.hX
    have HD5:Hid (Dr w0 (w3.setCell ⟨g,L,none⟩ (.int .u8 255)) B R a bs cap):=HD3.out.other hon5 (by omega) (fun k hk=>by omega)
    have HO5:Hid (Only (fun k=>k=R) w (w3.setCell ⟨g,L,none⟩ (.int .u8 255))):=only_chain (P:=w.heap.size) HO3.out nl (hon5.mono (fun k _ hk=>by omega))
    have HSL:Hid ((ys.set L 255).length=L+1):=hsl
    have hgP:g≠w.heap.size:=by omega
    have hgP':w.heap.size≠g:=by omega
    have hgX':X≠g:=hgX.symm
    clear hst hon5 hog HV3 HD3 HP3 HO3 hsl
    rw [hL] at x0
    generalize ys.getD L 0=old at *
    go_wp2
    obtain ⟨e1,e2,e3⟩:=bent_end hRl.2 hBw HV5.out HD5.out HO5.out (.slice (some ⟨g,0,none⟩) (L+1) c1) (.int .i64 n)
    refine bodyPost_ret (v:=.agg #[.slice (some ⟨g,0,none⟩) (L+1) c1,.int .i64 n]) (by simp [results,Tryz.results53,go_sem,p0,p1]) rfl ⟨⟨some ⟨g,0,none⟩,c1,ys.set L 255,n,by rw [HSL.out],by rw [HSL.out];omega,by omega,by omega,e1⟩,e2,e3⟩
   ·have hl0:ys.length=0:=by omega
    rw [hl0] at x0
    have HV5:Hid (BV w3 (w.heap.size+1) X a1 c1 ys n):=HV3.out
    go_wp2
    obtain ⟨e1,e2,e3⟩:=bent_end hRl.2 hBw HV5.out HD3.out HO3.out (.slice a1 0 c1) (.int .i64 n)
    refine bodyPost_ret (v:=.agg #[.slice a1 0 c1,.int .i64 n]) (by simp [results,Tryz.results53,go_sem,p0,p1]) rfl ⟨⟨a1,c1,ys,n,by rw [hl0],by omega,by omega,by omega,e1⟩,e2,e3⟩
  ·go_wp2_with fail
   refine (HD3.out.below 9 (by omega) (by omega)).mono ?_
   rintro e w4 ⟨⟨t,ht1,ht2,rfl⟩,hd4,ho4⟩
   have hv4:BV w4 (w.heap.size+1) X a1 c1 ys n:=HV3.out.only ho4 (by omega) (fun k hk=>by omega)
   have hp4:w4.heap[w.heap.size]?=some (.cells #[.slice none 0 0,.int .i64 0] 40 (0,0)):=(ho4.block _ hP3 (by omega)).trans HP3.out
   clear x0 x1 y0 y1 p0 p1 q0 q1
   have HX4:Hid _:=hv4.hX
   have HP4:Hid _:=hp4
   have x0:w4.cell? ⟨X,0,none⟩=some (.slice a1 ys.length c1):=cellC (j:=0) hv4.hX rfl
   have x1:w4.cell? ⟨X,1,none⟩=some (.int .i64 n):=cellC (j:=1) hv4.hX rfl
   have y0:w4.frozen? ⟨X,0,none⟩=false:=frozen_of_row w4 _ 0 _ _ hv4.hX
   have y1:w4.frozen? ⟨X,1,none⟩=false:=frozen_of_row w4 _ 1 _ _ hv4.hX
   have HD4:Hid (Dr w0 w4 B R a bs cap):=hd4
   have HO4:Hid (Only (fun k=>k=R) w w4):=HO3.out.trans ho4
   have hX4s:X<w4.heap.size:=Nat.lt_of_lt_of_le hX3 ho4.size
   have hz4:w.heap.size+1≤w4.heap.size:=by omega
   obtain ⟨q,hq⟩:∃ q:Nat,(4096-t+7) / 8=(q:Int):=⟨((4096-t+7) / 8).toNat,by omega⟩
   have hqb:q≤512:=by omega
   have HQ:Hid ((4096-t+7) / 8=(q:Int)):=hq
   have HTR:Hid (0≤t∧t<9):=⟨ht1,ht2⟩
   clear hv4 hp4 hd4 ho4 HV3 HD3 HP3 HO3
   have hXb:(w4.setCell ⟨X,1,none⟩ (.int .i64 (4096-t))).heap[X]?=some (.cells #[.slice a1 ys.length c1,.int .i64 (4096-t)] 40 (0,0)):=by
    rw [heap_setCell_same _ X 1 _ _ _ HX4.out]
    simp
   have HXB:Hid _:=hXb
   have HPB:Hid ((w4.setCell ⟨X,1,none⟩ (.int .i64 (4096-t))).heap[w.heap.size]?=some (.cells #[.slice none 0 0,.int .i64 0] 40 (0,0))):=(Below.heap_setCell _ _ _ _ (by simpa using hPX)).trans HP4.out
   have hon4:Only (fun k=>k=X) w4 (w4.setCell ⟨X,1,none⟩ (.int .i64 (4096-t))):=(Only.refl (fun k=>k=X) w4).setCell (p:=⟨X,1,none⟩) (.inl rfl) _
   have HDB:Hid (Dr w0 (w4.setCell ⟨X,1,none⟩ (.int .i64 (4096-t))) B R a bs cap):=HD4.out.other hon4 (by omega) (fun k hk=>by omega)
   have HOB:Hid (Only (fun k=>k=R) w (w4.setCell ⟨X,1,none⟩ (.int .i64 (4096-t)))):=only_chain (P:=w.heap.size) HO4.out nl (hon4.mono (fun k _ hk=>by omega))
   have hzb:w.heap.size+1≤(w4.setCell ⟨X,1,none⟩ (.int .i64 (4096-t))).heap.size:=Nat.le_trans hz4 hon4.size
   clear hXb hon4 HD4 HO4 HP4 HX4 hq
   go_wp2_with (at_make;refine wpList_make_full _ rfl _ _ 22 rfl (w.heap.size+1) 5 i0 (.int .u8 0) 1 Tryz.underlying22 hi hz0 hz1 .i64 .i64 _ _ q rfl rfl HQ.out HQ.out (by rw [hz2];omega) (by unfold maxLen;omega) hzb ?_;intro w5 hown hgrow;have hX5:=grown_blk hgrow HXB.out (by simp);have hP5:=grown_blk hgrow HPB.out (by simp);have u0:w5.cell? ⟨X,0,none⟩=some (.slice a1 ys.length c1):=cellC (j:=0) hX5 rfl;have u1:w5.cell? ⟨X,1,none⟩=some (.int .i64 (4096-t)):=cellC (j:=1) hX5 rfl;have g0:w5.frozen? ⟨X,0,none⟩=false:=frozen_of_row w5 _ 0 _ _ hX5;have m0:w5.cell? ⟨w.heap.size,0,none⟩=some (.slice none 0 0):=cellC (j:=0) hP5 rfl;have m1:w5.cell? ⟨w.heap.size,1,none⟩=some (.int .i64 0):=cellC (j:=1) hP5 rfl;have k0:w5.frozen? ⟨w.heap.size,0,none⟩=false:=frozen_of_row w5 _ 0 _ _ hP5;have k1:w5.frozen? ⟨w.heap.size,1,none⟩=false:=frozen_of_row w5 _ 1 _ _ hP5)
   have hov:OVB w5 (w.heap.size+1) (.slice (some ⟨w4.heap.size,0,none⟩) (List.replicate q (0:Int)).length q) (List.replicate q 0):=by
    refine ⟨?_,by intro z hz;simp at hz;omega⟩
    rw [made_zero] at hown
    simpa using hown
   have hlr:(List.replicate q (0:Int)).length=q:=by simp
   generalize List.replicate q (0:Int)=E at *
   rw [hlr] at hov
   have hneX:some X≠(Value.slice (some ⟨w4.heap.size,0,none⟩) q q).ownBlock:=hov.blk_ne hX5 (by decide)
   have hon5:Only (fun k=>k=X) w5 (w5.setCell ⟨X,0,none⟩ (.slice (some ⟨w4.heap.size,0,none⟩) q q)):=(Only.refl (fun k=>k=X) w5).setCell (p:=⟨X,0,none⟩) (.inl rfl) _
   have ho5:Only (fun k=>w.heap.size+1≤k) (w4.setCell ⟨X,1,none⟩ (.int .i64 (4096-t))) w5:=(Only.refl (fun k=>w.heap.size+1≤k) _).grown hgrow (fun k hk=>by cases hk)
   have HV5:BV (w5.setCell ⟨X,0,none⟩ (.slice (some ⟨w4.heap.size,0,none⟩) q q)) (w.heap.size+1) X (some ⟨w4.heap.size,0,none⟩) q E (4096-t):=by
    refine ⟨?_,by rw [hlr];exact ⟨rowStayV hov.1 hon5 (fun k hk e=>hneX (by rw [hk,e])),hov.2⟩⟩
    rw [heap_setCell_same _ X 0 _ _ _ hX5,hlr]
    simp
   have HD5:Dr w0 (w5.setCell ⟨X,0,none⟩ (.slice (some ⟨w4.heap.size,0,none⟩) q q)) B R a bs cap:=(HDB.out.other ho5 (by omega) (fun k hk=>by omega)).other hon5 (by omega) (fun k hk=>by omega)
   have HO5:Only (fun k=>k=R) w (w5.setCell ⟨X,0,none⟩ (.slice (some ⟨w4.heap.size,0,none⟩) q q)):=only_chain (P:=w.heap.size) (only_chain (P:=w.heap.size) HOB.out nl (ho5.mono (fun k _ hk=>by omega))) nl (hon5.mono (fun k _ hk=>by omega))
   obtain ⟨e1,e2,e3⟩:=bent_end hRl.2 hBw HV5 HD5 HO5 (.slice (some ⟨w4.heap.size,0,none⟩) q q) (.int .i64 (4096-t))
   refine bodyPost_ret (v:=.agg #[.slice (some ⟨w4.heap.size,0,none⟩) q q,.int .i64 (4096-t)]) (by simp [results,Tryz.results53,go_sem,m0,m1]) rfl ⟨⟨some ⟨w4.heap.size,0,none⟩,q,E,4096-t,by rw [hlr],by omega,by have:=HTR.out;omega,by have:=HTR.out;omega,e1⟩,e2,e3⟩
end Go.Proofs.YtfeokafkhnbdiaaGreatDoor
