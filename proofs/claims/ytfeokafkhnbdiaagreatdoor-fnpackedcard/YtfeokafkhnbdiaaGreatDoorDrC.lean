/- Lemmas on the way. -/
import Derived.Test.YtfeokafkhnbdiaaGreatDoorEnF
import Derived.Test.YtfeokafkhnbdiaaGreatDoorSqY
import Derived.Test.YtfeokafkhnbdiaaGreatDoorPcB
import Derived.Laws.BitsAllLaws
import Derived.BigQuiet
import Derived.Test.YtfeokafkhnbdiaaGreatDoorFp1
import Derived.Test.YtfeokafkhnbdiaaGreatDoorSqEq
set_option maxRecDepth 20000
set_option maxHeartbeats 16000000
namespace Go.Proofs.YtfeokafkhnbdiaaGreatDoor
open Go.RowKit
set_option linter.unusedVariables false
def exC (b:List Int) (c:Ct):List Int:=rep (b++c.1) c.2.2.toNat c.2.1.toNat
theorem exb_fold (ss:List Sq):∀ k,k≤ss.length→exb ss k=((ss.map Sq.ct).take k).foldl exC []
 | 0,_=>rfl
 | k+1,h=>by
  have e:(ss.map Sq.ct)[k]'(by rw [List.length_map];omega)=(ss.getD k dq).ct:=by
   rw [List.getElem_map,List.getD_eq_getElem?_getD,List.getElem?_eq_getElem (by omega)]
   rfl
  rw [List.take_succ_eq_append_getElem (by rw [List.length_map];omega),List.foldl_append,←exb_fold ss k (by omega),e]
  rfl
theorem take_next {ys:List Int} {q:Nat} (h:q<ys.length):ys.take (q+1)=ys.take q++[ys.getD q 0]:=by
 rw [List.take_succ_eq_append_getElem h,List.getD_eq_getElem?_getD,List.getElem?_eq_getElem h]
 rfl
theorem rep_take {ys:List Int} {q d:Nat} (hd:1≤d) (hdq:d≤q):∀ n,q+n≤ys.length→(∀ j,j<n→ys.getD (q+j-d) 0=ys.getD (q+j) 0)→rep (ys.take q) d n=ys.take (q+n)
 | 0,_,_=>rfl
 | n+1,h,hal=>by
  have ih:=rep_take hd hdq n (by omega) (fun j hj=>hal j (by omega))
  simp only [rep]
  rw [ih,←Nat.add_assoc,take_next (by omega)]
  congr 2
  rw [List.length_take,Nat.min_eq_left (by omega),←hal n (by omega)]
  rw [List.getD_eq_getElem?_getD,List.getD_eq_getElem?_getD,List.getElem?_take,if_pos (by omega)]
theorem cutL_take {ys:List Int} {f q:Nat} (h1:f≤q):ys.take f++cutL ys f q=ys.take q:=by
 unfold cutL
 have h:=List.take_append_drop f (ys.take q)
 rw [List.take_take,Nat.min_eq_left h1,List.drop_take] at h
 exact h
theorem go_ex (ys:List Int) (hn:ys.length≤64):∀ (n f q:Nat) (cs:List Ct),cs.foldl exC []=ys.take f→f≤q→q≤ys.length→(go ys n f q cs).2.foldl exC []=ys.take (go ys n f q cs).1
 | 0,f,q,cs,h,_,_=>h
 | n+1,f,q,cs,h,h1,h2=>by
  simp only [go]
  split
  ·rename_i hq
   split
   ·rename_i ht
    obtain ⟨p1,p2,p3,p4⟩:=lzA_piece hq ht.1
    refine go_ex ys hn n _ _ _ ?_ nl (by omega)
    rw [List.foldl_append,h]
    simp only [List.foldl_cons,List.foldl_nil,exC,Int.toNat_natCast]
    rw [cutL_take h1]
    refine rep_take p2 p3 _ p4 (fun j hj=>?_)
    have e:(lz ys q).1=alk ys (q-(lz ys q).2) q:=by
     have hl:=lz_at hq
     rw [hl] at p1 ⊢
     unfold lzA at p1 ⊢
     split
     ·rename_i h3;rw [if_pos h3] at p1;simp at p1
     ·rename_i h3
      rcases (lzD_spec ys q q).2 with h4 | ⟨d,d1,d2,d3,_⟩
      ·rw [h4] at h3;simp at h3
      ·rw [d3]
    have:=alkF_eq ys _ (q-(lz ys q).2) q j (by show j<alk ys _ q;omega)
    rw [show q+j-(lz ys q).2=q-(lz ys q).2+j by omega]
    exact this
   ·exact go_ex ys hn n f (q+1) cs h (by omega) (by omega)
  ·exact h
theorem found_exb {ys:List Int} (hn:ys.length≤64) {ss:List Sq} (h:ss.map Sq.ct=found ys):exb ss ss.length=ys:=by
 have hg:=go_ex ys hn ys.length 0 0 [] (by simp) nl (Nat.zero_le _)
 have hl:=(go_ps ys hn ys.length 0 0 [] ⟨rfl,by simp⟩ nl (Nat.zero_le _)).2
 rw [exb_fold ss ss.length nl]
 have e:(ss.map Sq.ct).take ss.length=ss.map Sq.ct:=by rw [←List.length_map (f:=Sq.ct),List.take_length]
 rw [e,h]
 unfold found fin
 split
 ·rename_i hf
  rw [List.foldl_append,hg]
  simp only [List.foldl_cons,List.foldl_nil,exC,Int.toNat_zero,rep]
  rw [cutL_take hl,List.take_length]
 ·rename_i hf
  rw [hg,List.take_of_length_le (by omega)]
theorem and255 (y:Int):0≤bits .and .i64 y 255∧bits .and .i64 y 255≤255:=by
 have h:bits .and .i64 y 255=IntKind.i64.wrap ((BitVec.ofInt 64 y &&& BitVec.ofInt 64 255).toNat:Int):=rfl
 rw [h,BitVec.toNat_and]
 have h2:(BitVec.ofInt 64 y).toNat &&& (BitVec.ofInt 64 255).toNat≤255:=Nat.le_trans Nat.and_le_right (by decide)
 generalize (BitVec.ofInt 64 y).toNat &&& (BitVec.ofInt 64 255).toNat=q at *
 rw [IntWalk.i64_in _ (by omega)]
 omega
def Cur (w:World) (B R:Nat) (a:Option Addr) (L cap:Nat):Prop:=∃ i h:Int,w.heap[R]?=some (.cells #[.slice a L cap,.int .i64 i,.int .i64 h] 90 (0,0))∧0≤i∧i≤L∧B≤R∧B≤w.heap.size
theorem cellC {w:World} {R j:Nat} {cur:Array Value} {T:TypeId} {v:Value} (hR:w.heap[R]?=some (.cells cur T (0,0))) (hv:cur[j]?=some v):w.cell? ⟨R,j,none⟩=some v:=by
 rw [cell_of_row w R j cur T (0,0) hR];exact hv
theorem Cur.only {w w':World} {B R:Nat} {a:Option Addr} {L cap:Nat} {S:Nat→Prop} (h:Cur w B R a L cap) (ho:Only S w w') (hs:¬S R):Cur w' B R a L cap:=by
 obtain ⟨i,x,hR,h1,h2,h3,h4⟩:=h
 exact ⟨i,x,(ho.block R (Array.getElem?_eq_some_iff.1 hR).1 hs).trans hR,h1,h2,h3,Nat.le_trans h4 ho.size⟩
theorem Cur.lt {w:World} {B R:Nat} {a:Option Addr} {L cap:Nat} (h:Cur w B R a L cap):B≤R∧R<w.heap.size:=by
 obtain ⟨i,x,hR,h1,h2,h3,h4⟩:=h
 exact ⟨h3,(Array.getElem?_eq_some_iff.1 hR).1⟩
theorem only_below {w w':World} {B R:Nat} (h:Only (fun k=>k=R) w w') (hB:B≤w.heap.size) (hR:B≤R):Below B w w':=h.below hB (fun k hk=>by rw [hk];exact hR)
theorem l1Byte_any (R B:Nat) (a:Option Addr) (bs:List Int) (cap:Nat) (w0 w:World) (hb:Byt w0 a bs) (hB:w0.heap.size=B) (hl:bs.length≤maxLen) (hbel:Below B w0 w) (hc:Cur w B R a bs.length cap) :
  Calls Tryz.prog 59 #[.pointer (some ⟨R,0,none⟩)] w fun e w'=>(∃ x:Int,0≤x∧x≤255∧e=.returned (.int .i64 x))∧Cur w' B R a bs.length cap∧Only (fun k=>k=R) w w':=by
 obtain ⟨i,h,hR,hi0,hi1,hBR,hBw⟩:=hc
 have hRl:R<w.heap.size:=(Array.getElem?_eq_some_iff.1 hR).1
 have c0:=cellC (j:=0) hR rfl
 have c1:=cellC (j:=1) hR rfl
 have c2:=cellC (j:=2) hR rfl
 have f2:w.frozen? ⟨R,2,none⟩=false:=frozen_of_row w R 2 _ _ hR
 have HR:Hid (w.heap[R]?=some (.cells #[.slice a bs.length cap,.int .i64 i,.int .i64 h] 90 (0,0))):=hR
 clear hR
 unfold maxLen at hl
 go_enter Tryz.func59,Tryz.ntmps59
 go_wp2
 clear c0 c1 c2 f2
 generalize wrap64 (wrap64 (h*6364136223846793005)+1442695040888963407)=h2
 have hR2:(w.setCell ⟨R,2,none⟩ (.int .i64 h2)).heap[R]?=some (.cells #[.slice a bs.length cap,.int .i64 i,.int .i64 h2] 90 (0,0)):=by
  rw [heap_setCell_same _ R 2 _ _ _ HR.out];simp
 have hO:Only (fun k=>k=R) w (w.setCell ⟨R,2,none⟩ (.int .i64 h2)):=Only.setCell (Only.refl (fun k=>k=R) w) (p:=⟨R,2,none⟩) (.inl rfl) _
 generalize w.setCell ⟨R,2,none⟩ (.int .i64 h2)=W at *
 have hbW:Below B w0 W:=hbel.trans (only_below hO hBw hBR)
 have c0:=cellC (j:=0) hR2 rfl
 have c1:=cellC (j:=1) hR2 rfl
 have c2:=cellC (j:=2) hR2 rfl
 have f1:W.frozen? ⟨R,1,none⟩=false:=frozen_of_row W R 1 _ _ hR2
 have HR2:Hid (W.heap[R]?=some (.cells #[.slice a bs.length cap,.int .i64 i,.int .i64 h2] 90 (0,0))):=hR2
 have HO:Hid (Only (fun k=>k=R) w W):=hO
 have hsW:=hO.size
 clear hR2 hO HR
 generalize hx:bits .and .i64 (bits .xor .i64 (h2 / 2 ^ 33) (h2 / 2 ^ 45)) 255=x0
 by_cases hlt:i<bs.length
 ·obtain ⟨q,rfl⟩:=Int.eq_ofNat_of_zero_le hi0
  obtain ⟨b1,o1,rfl,hb1,hc1⟩:=(hb.below hbW (by omega)).len_pos q (by omega)
  have hs1:=hc1 q (by omega)
  have hz:=getD_rng hb.1 q
  clear hc1
  generalize bs.getD q 0=z at *
  go_wp2
  go_quiet (fail)
  go_wp2
  go_quiet (fail)
  go_wp2
  go_quiet (fail)
  go_wp2
  go_ret
  have hB2:B≤W.heap.size:=by omega
  refine ⟨⟨_,(and255 _).1,(and255 _).2,rfl⟩,⟨(q:Int)+1,h2,by rw [heap_setCell_same _ R 1 _ _ _ (by exact HR2.out)];simp,by omega,by omega,hBR,?_⟩,?_⟩
  ·simp [World.setCell];exact hB2
  ·refine Only.setCell (S:=fun k=>k=R) (p:=⟨R,1,none⟩) ?_ (.inl rfl) _
   have H:=HO.out
   exact ⟨H.os,H.tape,H.output,H.size,H.block⟩
 ·go_wp2
  go_quiet (fail)
  go_wp2
  go_quiet (fail)
  go_wp2
  go_ret
  have H:=HO.out
  exact ⟨⟨_,(and255 _).1,(and255 _).2,rfl⟩,⟨i,h2,HR2.out,hi0,hi1,hBR,by have:=hsW;show B≤W.heap.size;omega⟩,⟨H.os,H.tape,H.output,H.size,H.block⟩⟩
structure Dr (w0 w:World) (B R:Nat) (a:Option Addr) (bs:List Int) (cap:Nat):Prop where
 byt:Byt w0 a bs
 hB:w0.heap.size=B
 hl:bs.length≤maxLen
 bel:Below B w0 w
 cur:Cur w B R a bs.length cap
theorem Dr.step {w0 w w':World} {B R:Nat} {a:Option Addr} {bs:List Int} {cap:Nat} (h:Dr w0 w B R a bs cap) (hc:Cur w' B R a bs.length cap) (ho:Only (fun k=>k=R) w w'):Dr w0 w' B R a bs cap:=
 ⟨h.byt,h.hB,h.hl,h.bel.trans (only_below ho (by have:=h.bel.size;have:=h.hB;omega) h.cur.lt.1),hc⟩
theorem Dr.byte {w0 w:World} {B R:Nat} {a:Option Addr} {bs:List Int} {cap:Nat} (h:Dr w0 w B R a bs cap) :
  Calls Tryz.prog 59 #[.pointer (some ⟨R,0,none⟩)] w fun e w'=>(∃ x:Int,0≤x∧x≤255∧e=.returned (.int .i64 x))∧Dr w0 w' B R a bs cap∧Only (fun k=>k=R) w w':=by
 refine (l1Byte_any R B a bs cap w0 w h.byt h.hB h.hl h.bel h.cur).mono ?_
 rintro e w' ⟨hx,hc,ho⟩
 exact ⟨hx,h.step hc ho,ho⟩
theorem Dr.other {w0 w w':World} {B R:Nat} {a:Option Addr} {bs:List Int} {cap:Nat} {S:Nat→Prop} (h:Dr w0 w B R a bs cap) (ho:Only S w w') (hs:¬S R) (hb:∀ k,S k→B≤k):Dr w0 w' B R a bs cap:=
 ⟨h.byt,h.hB,h.hl,h.bel.trans (ho.below (by have:=h.bel.size;have:=h.hB;omega) hb),h.cur.only ho hs⟩
theorem Dr.below {w0 w:World} {B R:Nat} {a:Option Addr} {bs:List Int} {cap:Nat} (h:Dr w0 w B R a bs cap) (n:Int) (hn:0<n) (hn2:n≤256) :
  Calls Tryz.prog 51 #[.pointer (some ⟨R,0,none⟩),.int .i64 n] w fun e w'=>(∃ x:Int,0≤x∧x<n∧e=.returned (.int .i64 x))∧Dr w0 w' B R a bs cap∧Only (fun k=>k=R) w w':=by
 have H:Hid (Dr w0 w B R a bs cap):=h
 clear h
 go_enter Tryz.func51,Tryz.ntmps51
 go_wp2_with fail
 refine H.out.byte.mono ?_
 rintro e w1 ⟨⟨x,h1,h2,rfl⟩,hd,ho⟩
 have HD:Hid _:=hd
 have HO:Hid _:=ho
 clear hd ho H
 go_wp2
 go_ret
 refine ⟨⟨_,?_,?_,rfl⟩,HD.out,HO.out⟩
 ·exact Int.emod_nonneg _ (by omega)
 ·exact Int.emod_lt_of_pos _ hn
theorem Dr.once {w0 w:World} {B R:Nat} {a:Option Addr} {bs:List Int} {cap:Nat} (h:Dr w0 w B R a bs cap) (n:Int) (hn:0<n) (hn2:n≤256) :
  Calls Tryz.prog 50 #[.pointer (some ⟨R,0,none⟩),.int .i64 n] w fun e w'=>(∃ b:Bool,e=.returned (.bool b))∧Dr w0 w' B R a bs cap∧Only (fun k=>k=R) w w':=by
 have H:Hid (Dr w0 w B R a bs cap):=h
 clear h
 go_enter Tryz.func50,Tryz.ntmps50
 go_wp2_with fail
 refine (H.out.below n hn hn2).mono ?_
 rintro e w1 ⟨⟨x,h1,h2,rfl⟩,hd,ho⟩
 have HD:Hid _:=hd
 have HO:Hid _:=ho
 clear hd ho H
 go_wp2
 go_ret
 exact ⟨⟨_,rfl⟩,HD.out,HO.out⟩
theorem Dr.pick {w0 w:World} {B R:Nat} {a:Option Addr} {bs:List Int} {cap:Nat} (h:Dr w0 w B R a bs cap) (b c:Nat) (l:List Int) (hl:Ins w (some ⟨b,0,none⟩) l) (hb:b≠R) (h0:0<l.length) (h1:l.length≤200) :
  Calls Tryz.prog 35 #[.pointer (some ⟨R,0,none⟩),.slice (some ⟨b,0,none⟩) l.length c] w fun e w'=>(∃ x ∈ l,e=.returned (.int .i64 x))∧Dr w0 w' B R a bs cap∧Only (fun k=>k=R) w w':=by
 have H:Hid (Dr w0 w B R a bs cap):=h
 have HLL:Hid (Ins w (some ⟨b,0,none⟩) l):=hl
 clear h hl
 generalize hq:l.length=m at *
 have HQ:Hid (l.length=m):=hq
 clear hq
 go_enter Tryz.func35,Tryz.ntmps35
 go_wp2_with fail
 refine (H.out.below (m:Nat) (by omega) (by omega)).mono ?_
 rintro e w1 ⟨⟨x,h2,h3,rfl⟩,hd,ho⟩
 obtain ⟨j,rfl⟩:=Int.eq_ofNat_of_zero_le h2
 obtain ⟨b',o',he,hbl,hc⟩:=HLL.out.len_pos j (by rw [HQ.out];omega)
 obtain ⟨rfl,rfl⟩:b=b'∧0=o':=by simpa using he
 have hs:=ho.cell hbl (by simpa using hb) (hc j (by rw [HQ.out];omega))
 simp only [Nat.zero_add] at hs
 have HMM:Hid (l.getD j 0 ∈ l):=by
  unfold Hid
  rw [List.getD_eq_getElem?_getD,List.getElem?_eq_getElem (by rw [HQ.out];omega)]
  exact List.getElem_mem _
 have HD:Hid _:=hd
 have HO:Hid _:=ho
 clear hd ho H hc he HLL
 generalize l.getD j 0=y at *
 go_wp2
 go_ret
 exact ⟨⟨y,HMM.out,rfl⟩,HD.out,HO.out⟩
theorem l1New_any (a:Option Addr) (bs:List Int) (cap:Nat) (w:World) (hb:Byt w a bs) (hl:bs.length≤maxLen) :
  Calls Tryz.prog 33 #[.slice a bs.length cap] w fun e w'=>e=.returned (.pointer (some ⟨w.heap.size,0,none⟩))∧Dr w w' w.heap.size w.heap.size a bs cap:=by
 have HLM:Hid (bs.length≤maxLen):=hl
 unfold maxLen at hl
 generalize hlen:bs.length=n at *
 have HL:Hid (bs.length=n):=hlen
 clear hlen
 go_enter Tryz.func33,Tryz.ntmps33
 go_wp2
 go_loop [3,4] (fun x i=>∃ (k:Nat) (h:Int),k≤n∧k≤4000∧i=.int .i64 k∧x=.int .i64 h) (fun _ i=>4000-(intOf i).toNat)
 case atStart=>exact ⟨0,_,Nat.zero_le _,by omega,rfl,rfl⟩
 case round=>
  obtain ⟨k,h,hk,hk4,rfl,rfl⟩:=hrel
  by_cases hlt:k<n
  ·by_cases h4:k<4000
   ·obtain ⟨b1,o1,rfl,hb1,hc1⟩:=hb.len_pos k (by rw [HL.out];exact hlt)
    have hs1:=hc1 k (by rw [HL.out];exact hlt)
    have hz:=getD_rng hb.1 k
    clear hc1
    generalize bs.getD k 0=z at *
    have hd4:decide ((k:Int)<4000)=true:=by simp;omega
    have H4:Hid (k<4000):=h4
    have HK4:Hid (k≤4000):=hk4
    clear h4 hk4
    go_wp2
    go_round
    case rel=>exact ⟨k+1,_,by omega,by have:=H4.out;omega,by go_num,rfl⟩
    case measure=>have:=H4.out;simp [intOf];omega
   ·have hd4:decide ((k:Int)<4000)=false:=by simp;omega
    go_wp2
    go_ret
    exact ⟨rfl,hb,rfl,by rw [HL.out];exact HLM.out,(Below.refl _ _).alloc nl _,0,h,by rw [HL.out];exact heap_alloc_new w _,by omega,by omega,Nat.le_refl _,by simp⟩
  ·have hkn:k=n:=by omega
   subst hkn
   go_wp2
   go_ret
   exact ⟨rfl,hb,rfl,by rw [HL.out];exact HLM.out,(Below.refl _ _).alloc nl _,0,h,by rw [HL.out];exact heap_alloc_new w _,by omega,by omega,Nat.le_refl _,by simp⟩
structure BV (w:World) (C X:Nat) (a:Option Addr) (c:Nat) (ys:List Int) (N:Int):Prop where
 hX:w.heap[X]?=some (.cells #[.slice a ys.length c,.int .i64 N] 40 (0,0))
 own:OVB w C (.slice a ys.length c) ys
end Go.Proofs.YtfeokafkhnbdiaaGreatDoor
