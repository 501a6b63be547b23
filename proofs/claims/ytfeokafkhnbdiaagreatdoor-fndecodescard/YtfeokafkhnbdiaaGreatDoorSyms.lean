/- Lemmas on the way. -/
import Derived.Test.YtfeokafkhnbdiaaGreatDoorWidth
import Derived.Laws.CopyOwn
import Derived.Test.YtfeokafkhnbdiaaGreatDoorPcA
set_option maxRecDepth 20000
set_option maxHeartbeats 16000000
namespace Go.Proofs.YtfeokafkhnbdiaaGreatDoor
open Go.RowKit
set_option linter.unusedVariables false
theorem made_block {w:World} {B g n:Nat} (h:w.ownsRow B 5 1 (.slice (some ⟨g,0,none⟩) n n) n (madeCells (Value.int .u8 0).cells (n*1)).toList) :
  w.heap[g]?=some (.cells ((List.replicate n (0:Int)).map (Value.int .u8)).toArray 5 (0,0)):=by
 rcases h.2 with ⟨h',_⟩ | ⟨g',cap',cur,h',hg,hh,h1,h2,h3,h4⟩
 ·simp at h'
 ·simp only [Value.slice.injEq,Option.some.injEq,Addr.mk.injEq,and_true,true_and] at h'
  obtain ⟨rfl,rfl⟩:=h'
  rw [hh,←made_zero,←h4]
  rw [List.take_of_length_le (by simp [h3])]
theorem own_block {w:World} {B g:Nat} {zs:List Int} (hB:B≤g) (h:w.heap[g]?=some (.cells (zs.map (Value.int .u8)).toArray 5 (0,0))) (hr:∀ z ∈ zs,0≤z∧z≤255) (hl:zs.length≤1048576):Own w B g zs.length zs:=
 ⟨⟨by simp,.inr ⟨g,zs.length,_,rfl,hB,h,Nat.le_refl _,by unfold maxLen;omega,by simp,by rw [Nat.mul_one];exact List.take_of_length_le (by simp)⟩⟩,hr⟩
theorem newWriter_any (a:Option Addr) (cap:Nat) (zs:List Int) (N room:Int) (w:World) (hb:Byt w a zs) (hn:zs.length≤1048576) :
  Calls Tryz.prog 42 #[.agg #[.slice a zs.length cap,.int .i64 N],.int .i64 room] w fun e w'=>
   ∃ R g,e=.returned (.pointer (some ⟨R,0,none⟩))∧w'.heap[R]?=some (.cells #[.slice (some ⟨g,0,none⟩) zs.length zs.length,.int .i64 N,.int .i64 room] 73 (0,0)) ∧
    Own w' w.heap.size g zs.length zs∧w.heap.size≤R∧Below w.heap.size w w':=by
 obtain ⟨i0,hi,hz0,hz1,hz2⟩:=info_parts Tryz.infoU8
 have hsz:(Tryz.prog.info? 5).map (·.size)=some 1:=by rw [hi];simp [hz1]
 generalize hlen:zs.length=n at *
 have HL:Hid (zs.length=n):=hlen
 clear hlen
 go_enter Tryz.func42,Tryz.ntmps42
 have hone:=oneCells zs
 have hsrc:∀ W:World,(∀ b o,b<w.heap.size→W.cell? ⟨b,o,none⟩=w.cell? ⟨b,o,none⟩)→0<(zs.map (Value.int .u8)).length→∃ ad,a=some ad∧∀ j u,(zs.map (Value.int .u8))[j]?=some u→W.cell? (ad.add j)=some u:=by
  intro W hW hp
  obtain ⟨b,off,rfl,hbl,hc⟩:=hb.2 (by simpa using hp)
  exact ⟨_,rfl,news_of (fun i hi=>(hW b (off+i) hbl).trans (hc i hi))⟩
 have HSRC:Hid (∀ W:World,(∀ b o,b<w.heap.size→W.cell? ⟨b,o,none⟩=w.cell? ⟨b,o,none⟩)→0<(zs.map (Value.int .u8)).length→∃ ad,a=some ad∧∀ j u,(zs.map (Value.int .u8))[j]?=some u→W.cell? (ad.add j)=some u):=hsrc
 clear hsrc
 go_wp2_with (first
  | (at_make;refine wpList_make_full _ rfl _ _ 22 rfl w.heap.size 5 i0 (.int .u8 0) 1 Tryz.underlying22 hi hz0 hz1 .i64 .i64 _ _ n rfl rfl rfl rfl (by rw [hz2];omega) (by unfold maxLen;omega) (by simp) ?_;intro w1 hown hgrow;have hbel1:Below (w.heap.size+1) (w.alloc (Obj.cells #[.slice a n cap,.int .i64 N] 40)) w1:=(Below.refl _ _).grown hgrow (by simp) (by intro k hk;cases hk);have p0:w1.cell? ⟨w.heap.size,0,none⟩=some (.slice a n cap):=keep hbel1 (by omega) (by simp);have hblk:=made_block hown;simp only [World.size_alloc] at hblk;have HBLK:Hid (w1.heap[w.heap.size+1]?=some (.cells ((List.replicate n (0:Int)).map (Value.int .u8)).toArray 5 (0,0))):=hblk;clear hown hgrow hblk)
  | (have _t:=HBLK;refine wpList_copy_splice rfl (.tmp 10) (.tmp 12) 22 22 rfl 5 Tryz.underlying22 hsz (some ⟨w.heap.size+1,0,none⟩) a n n n cap rfl rfl (w.heap.size+1) 0 ((List.replicate n (0:Int)).map (Value.int .u8)) 5 HBLK.out (zs.map (Value.int .u8)) (by have:=HL.out;simp [this]) (fun hp=>⟨rfl,HSRC.out _ (fun b o hb=>(hbel1.cell (p:=⟨b,o,none⟩) (by simp;omega)).trans (by exact (Below.cell ((Below.refl w.heap.size w).alloc nl _) (p:=⟨b,o,none⟩) hb))) hp⟩) (by have:=HL.out;simp [this]) hone (w.heap.size+1) _ hbel1 nl ?_;intro w2 hblk2 hbel2;have p0':w2.cell? ⟨w.heap.size,0,none⟩=some (.slice a n cap):=keep hbel2 (by omega) (by simp);have p1':w2.cell? ⟨w.heap.size,1,none⟩=some (.int .i64 N):=keep hbel2 (by omega) (by simp)))
 have hbl2:=hblk2.out
 have hspl:splice ((List.replicate n (0:Int)).map (Value.int .u8)) 0 (zs.map (Value.int .u8))=zs.map (Value.int .u8):=by
  unfold splice
  rw [List.drop_of_length_le (by have:=HL.out;simp [this])]
  simp
 rw [hspl] at hbl2
 have ho:=own_block (B:=w.heap.size) (g:=w.heap.size+1) (by omega) hbl2 hb.1 (by rw [HL.out];exact hn)
 rw [HL.out] at ho
 have hsz2:=hbel2.size
 simp at hsz2
 go_ret
 exact ⟨w2.heap.size,w.heap.size+1,rfl,heap_alloc_new w2 _,ho.alloc _,by omega,(((Below.refl w.heap.size w).alloc nl _).trans (hbel2.mono (by omega))).alloc (by omega) _⟩
theorem chunk_byte (n u s left:Nat) (hu:u<8) (hn:n<2 ^ left) (hs:s=min (8-u) left):(n*2 ^ u) % 256=(n % 2 ^ s)*2 ^ u:=by
 by_cases h:8-u≤left
 ·have:s=8-u:=by omega
  subst this
  have e:256=2 ^ (8-u)*2 ^ u:=by rw [←Nat.pow_add,show 8-u+u=8 from by omega]
  rw [e,Nat.mul_mod_mul_right]
 ·have:s=left:=by omega
  subst this
  rw [Nat.mod_eq_of_lt hn]
  refine Nat.mod_eq_of_lt ?_
  have h1:(n+1)*2 ^ u≤2 ^ s*2 ^ u:=Nat.mul_le_mul_right _ hn
  have h2:2 ^ (s+u)≤2 ^ 8:=Nat.pow_le_pow_right (by omega) (by omega)
  rw [Nat.add_mul,←Nat.pow_add] at h1
  have h3:0<2 ^ u:=Nat.pow_pos (by omega)
  omega
theorem put_chunk (old n u s left:Nat) (hu:u<8) (ho:old<2 ^ u) (hn:n<2 ^ left) (hs:s=min (8-u) left) (hn':n≤1073741824) :
  bits .or .u8 (old:Int) (wrap64 ((n:Int)*2 ^ u) % 256)=((old+n % 2 ^ s*2 ^ u:Nat):Int)∧old+n % 2 ^ s*2 ^ u<256:=by
 have hc:=chunk_byte n u s left hu hn hs
 have h2:2 ^ u≤2 ^ 7:=Nat.pow_le_pow_right (by omega) (by omega)
 have h3:n*2 ^ u≤1073741824*2 ^ u:=Nat.mul_le_mul_right _ hn'
 have h4:1073741824*2 ^ u≤1073741824*2 ^ 7:=Nat.mul_le_mul_left _ h2
 have e:((n:Int)*2 ^ u)=((n*2 ^ u:Nat):Int):=by simp
 have hlt:n % 2 ^ s*2 ^ u<256:=by rw [←hc];exact Nat.mod_lt _ (by omega)
 rw [e,IntWalk.wrap64_in _ (by omega),show (((n*2 ^ u:Nat):Int) % 256)=((n*2 ^ u % 256:Nat):Int) from by omega,hc]
 refine ⟨or_u8 old _ u ho (by simp) hlt (by omega),?_⟩
 have hd:n % 2 ^ s*2 ^ u+2 ^ u≤256:=by
  have:256=2 ^ (8-u)*2 ^ u:=by rw [←Nat.pow_add,show 8-u+u=8 from by omega]
  rw [this] at hlt ⊢
  have h5:n % 2 ^ s<2 ^ (8-u):=Nat.lt_of_mul_lt_mul_right hlt
  have h6:(n % 2 ^ s+1)*2 ^ u≤2 ^ (8-u)*2 ^ u:=Nat.mul_le_mul_right _ h5
  rw [Nat.add_mul,Nat.one_mul] at h6
  exact h6
 omega
theorem put_close3 {w W:World} {B g cap R q L s:Nat} {room:Int} {v:Value} {Z Z':List Int} {b:Int} (hR:W.heap[R]?=some (.cells #[.slice (some ⟨g,0,none⟩) L cap,.int .i64 (q:Nat),.int .i64 room] 73 (0,0)))
  (hZ:Z.length=L) (hown:Own W B g cap Z) (hnext:Z'=Z.set (q / 8) b) (hb:0≤b∧b≤255) (honly:Only (fun k=>k=R∨v.ownBlock=some k) w W)
  (hrow:v.ownBlock=some g∨w.heap.size≤g) :
  ((W.setCell ⟨g,q / 8,none⟩ (.int .u8 b)).setCell ⟨R,1,none⟩ (.int .i64 ((q:Int)+s))).heap[R]?=some (.cells #[.slice (some ⟨g,0,none⟩) L cap,.int .i64 ((q+s:Nat):Int),.int .i64 room] 73 (0,0)) ∧
  OwnV ((W.setCell ⟨g,q / 8,none⟩ (.int .u8 b)).setCell ⟨R,1,none⟩ (.int .i64 ((q:Int)+s))) B (.slice (some ⟨g,0,none⟩) L cap) Z' ∧
  Only (fun k=>k=R∨v.ownBlock=some k) w ((W.setCell ⟨g,q / 8,none⟩ (.int .u8 b)).setCell ⟨R,1,none⟩ (.int .i64 ((q:Int)+s))):=by
 have hne:=hown.ne hR (by decide)
 have h1:(W.setCell ⟨g,q / 8,none⟩ (.int .u8 b)).heap[R]?=some (.cells #[.slice (some ⟨g,0,none⟩) L cap,.int .i64 (q:Nat),.int .i64 room] 73 (0,0)):=by
  rw [Below.heap_setCell _ _ _ _ (by simpa using hne.symm)];exact hR
 have h2:=hown.store (q / 8) b hb
 have h3:=Own.setCell_other h2 (p:=⟨R,1,none⟩) (by simpa using hne.symm) (.int .i64 ((q:Int)+s))
 refine ⟨?_,?_,?_⟩
 ·rw [heap_setCell_same _ R 1 _ _ _ h1];simp
 ·rw [hnext]
  have hl:(Z.set (q / 8) b).length=L:=by rw [List.length_set];exact hZ
  have h4:=h3.v
  rw [hl] at h4
  exact h4
 ·refine Only.setCell (Only.setCell honly ?_ _) (.inl (.inl rfl)) _
  rcases hrow with h | h
  ·exact .inl (.inr h)
  ·exact .inr h
theorem put_grown3 {w wr w1:World} {o:Obj} {B R q g cap:Nat} {room:Int} {au:Option Addr} {cu:Nat} {v:Value} {Z:List Int} (hR:wr.heap[R]?=some (.cells #[.slice au (q / 8) cu,.int .i64 (q:Nat),.int .i64 room] 73 (0,0)))
  (hne:some R≠(Value.slice au (q / 8) cu).ownBlock) (hZ:∀ z ∈ Z,0≤z∧z≤255) (hl:Z.length=q / 8)
  (hg:(wr.alloc o).grownBy w1 (Value.slice au (q / 8) cu).ownBlock) (hown:w1.ownsRow B 5 1 (.slice (some ⟨g,0,none⟩) (q / 8+1) cap) (q / 8+1) (Z.map (Value.int .u8)++[.int .u8 0]))
  (hat:(Value.slice au (q / 8) cu).ownBlock=some g∨g=(wr.alloc o).heap.size) (honly:Only (fun k=>k=R∨v.ownBlock=some k) w wr)
  (hrow:(Value.slice au (q / 8) cu).ownBlock=v.ownBlock∨∃ k,(Value.slice au (q / 8) cu).ownBlock=some k∧w.heap.size≤k) :
  (w1.setCell ⟨R,0,none⟩ (.slice (some ⟨g,0,none⟩) (q / 8+1) cap)).heap[R]?=some (.cells #[.slice (some ⟨g,0,none⟩) (q / 8+1) cap,.int .i64 (q:Nat),.int .i64 room] 73 (0,0)) ∧
  Own (w1.setCell ⟨R,0,none⟩ (.slice (some ⟨g,0,none⟩) (q / 8+1) cap)) B g cap (Z++[0]) ∧
  Only (fun k=>k=R∨v.ownBlock=some k) w (w1.setCell ⟨R,0,none⟩ (.slice (some ⟨g,0,none⟩) (q / 8+1) cap))∧(v.ownBlock=some g∨w.heap.size≤g):=by
 have hR1:=app_keep hg hR hne
 have ho:Own w1 B g cap (Z++[0]):=by
  refine ⟨?_,?_⟩
  ·have e:(Z++[0]).length=q / 8+1:=by simp [hl]
   rw [e]
   simpa using hown
  ·intro z hz
   simp only [List.mem_append,List.mem_singleton] at hz
   rcases hz with hz | rfl
   ·exact hZ z hz
   ·omega
 have hgR:=ho.ne hR1 (by decide)
 have hsz:=honly.size
 refine ⟨?_,ho.setCell_other (by simpa using hgR.symm) _,?_,?_⟩
 ·rw [heap_setCell_same _ R 0 _ _ _ hR1];simp
 ·refine Only.setCell (Only.grown (honly.alloc o) hg ?_) (.inl (.inl rfl)) _
  intro k hk
  rcases hrow with h | ⟨k',h,h'⟩
  ·exact .inl (.inr (h.symm.trans hk))
  ·right
   rw [h] at hk
   simp at hk
   omega
 ·rcases hat with h | h
  ·rcases hrow with h' | ⟨k',h',h''⟩
   ·exact .inl (h'.symm.trans h)
   ·right
    rw [h'] at h
    simp at h
    omega
  ·right
   rw [h]
   simp
   omega
set_option maxRecDepth 100000 in
theorem wput_yes (R B:Nat) (v:Value) (n V:Nat) (x width room:Int) (w:World) (hR:w.heap[R]?=some (.cells #[v,.int .i64 n,.int .i64 room] 73 (0,0))) (hv:OwnV w B v (enc n V)) (hV:V<2 ^ n) (hB:B≤w.heap.size)
  (hx:0≤x) (h1:0≤width) (h2:width≤30) (hxw:x<2 ^ width.toNat) (h3:width≤room-n) (hn:n≤4104) (hroom:room≤5000) :
  Calls Tryz.prog 79 #[.pointer (some ⟨R,0,none⟩),.int .i64 x,.int .i64 width] w fun e w'=>e=.returned .nilIface ∧
   ∃ v',w'.heap[R]?=some (.cells #[v',.int .i64 ((n+width.toNat:Nat):Int),.int .i64 room] 73 (0,0))∧OwnV w' B v' (enc (n+width.toNat) (V+x.toNat*2 ^ n)) ∧
    Only (fun k=>k=R∨v.ownBlock=some k) w w'∧(v'.ownBlock=v.ownBlock∨∃ k,v'.ownBlock=some k∧w.heap.size≤k):=by
 obtain ⟨X,rfl⟩:=Int.eq_ofNat_of_zero_le hx
 obtain ⟨m,rfl⟩:=Int.eq_ofNat_of_zero_le h1
 simp only [Int.toNat_natCast] at *
 have hXm:X<2 ^ m:=by
  have e:((2:Int) ^ m)=((2 ^ m:Nat):Int):=by simp
  rw [e] at hxw
  omega
 have hXb:X≤1073741824:=by
  have:2 ^ m≤2 ^ 30:=Nat.pow_le_pow_right (by omega) (by omega)
  omega
 have HXM:Hid (X<2 ^ m):=hXm
 rw [←wrap_pow m (by omega)] at hxw
 have hRlt:R<w.heap.size:=(Array.getElem?_eq_some_iff.1 hR).1
 have HR:Hid (w.heap[R]?=some (.cells #[v,.int .i64 n,.int .i64 room] 73 (0,0))):=hR
 have HV:Hid (OwnV w B v (enc n V)):=hv
 have HVV:Hid (V<2 ^ n):=hV
 have c1:w.cell? ⟨R,1,none⟩=some (.int .i64 n):=cellR (j:=1) hR rfl
 have c2:w.cell? ⟨R,2,none⟩=some (.int .i64 room):=cellR (j:=2) hR rfl
 have hd:Hid (decide (0≤(m:Int)∧(m:Int)≤30)=true):=by simp [Hid];omega
 clear hR hv hV hXm
 obtain ⟨i0,hi,hz0,hz1,hz2⟩:=info_parts Tryz.infoU8
 go_enter Tryz.func79,Tryz.ntmps79
 go_wp2_with fail
 refine (widthOk_any _ _).mono ?_
 rintro e w1 ⟨rfl,hw1⟩
 rw [hd.out]
 rw [hw1]
 clear hw1
 go_wp2
 go_quiet (fail)
 go_wp2
 clear hxw c1 c2
 go_loopw [1,7] (fun y l wr=>∃ (d:Nat) (u:Value),d≤m∧l=.int .i64 ((m:Int)-d)∧y=.int .i64 ((X / 2 ^ d:Nat):Int)∧wr.heap[R]?=some (.cells #[u,.int .i64 ((n+d:Nat):Int),.int .i64 room] 73 (0,0))∧OwnV wr B u (enc (n+d) (V+(X % 2 ^ d)*2 ^ n)) ∧
   Only (fun k=>k=R∨v.ownBlock=some k) w wr∧(u.ownBlock=v.ownBlock∨∃ k,u.ownBlock=some k∧w.heap.size≤k)) (fun _ l _=>(intOf l).toNat)
 case atStart=>exact ⟨0,v,Nat.zero_le _,by simp,by simp,HR.out,by simp only [Nat.pow_zero,Nat.mod_one,Nat.zero_mul,Nat.add_zero];exact HV.out,(Only.refl _ _).drewN _,.inl rfl⟩
 case round=>
  obtain ⟨d,u,hdm,rfl,rfl,hRr,hur,honly,hrow⟩:=hrel
  by_cases hlt:d<m
  ·obtain ⟨s,hs⟩:∃ s,s=min (8-(n+d) % 8) (m-d):=⟨_,rfl⟩
   have hs1:0<s:=by omega
   have hVk:V+X % 2 ^ d*2 ^ n<2 ^ (n+d):=put_lt n V d _ HVV.out (Nat.mod_lt _ (Nat.pow_pos (by omega)))
   have hY:X / 2 ^ d<2 ^ (m-d):=by
    rw [Nat.div_lt_iff_lt_mul (Nat.pow_pos (by omega)),←Nat.pow_add,show m-d+d=m from by omega]
    exact HXM.out
   have hYb:X / 2 ^ d≤X:=Nat.div_le_self _ _
   have hnext:=enc_step (n+d) (V+X % 2 ^ d*2 ^ n) s (X / 2 ^ d % 2 ^ s) hVk (Nat.mod_lt _ (Nat.pow_pos (by omega))) hs1 (by omega)
   rw [put_part n V X d s] at hnext
   have htop:=enc_top (n+d) _ hVk
   have hlast:=enc_last (n+d) _ hVk
   have hlen:=enc_len (n+d) (V+X % 2 ^ d*2 ^ n)
   have hdiv:X / 2 ^ (d+s)=X / 2 ^ d / 2 ^ s:=by rw [Nat.div_div_eq_div_mul,←Nat.pow_add]
   have HDIV:Hid (X / 2 ^ (d+s)=X / 2 ^ d / 2 ^ s):=hdiv
   generalize hZp:enc (n+d+s) (V+X % 2 ^ (d+s)*2 ^ n)=Z' at *
   have HPART:Hid (enc (n+d+s) (V+X % 2 ^ (d+s)*2 ^ n)=Z'):=hZp
   clear hZp hdiv
   generalize (V+X % 2 ^ d*2 ^ n) / 256 ^ ((n+d) / 8)=old at *
   generalize enc (n+d) (V+X % 2 ^ d*2 ^ n)=Z at *
   generalize hYY:X / 2 ^ d=Y at *
   have HYY:Hid (X / 2 ^ d=Y):=hYY
   have hq4:n+d≤4134:=by omega
   generalize hq:n+d=q at *
   have HQ:Hid (n+d=q):=hq
   clear hq hYY hVk
   have hch:=put_chunk old Y (q % 8) s (m-d) (by omega) htop hY hs (by omega)
   have hrng:(0:Int)≤((old+Y % 2 ^ s*2 ^ (q % 8):Nat):Int)∧((old+Y % 2 ^ s*2 ^ (q % 8):Nat):Int)≤255:=by omega
   rw [←hch.1] at hrng hnext
   have HRNG:Hid (0≤bits .or .u8 (old:Int) (wrap64 ((Y:Int)*2 ^ (q % 8)) % 256)∧bits .or .u8 (old:Int) (wrap64 ((Y:Int)*2 ^ (q % 8)) % 256)≤255):=hrng
   clear hrng hch hY
   by_cases h8:q % 8=0
   ·rw [if_pos h8] at hnext
    have hlen':Z.length=q / 8:=by omega
    have HNEXT:Hid (Z'=(Z++[0]).set (q / 8) (bits .or .u8 (old:Int) (wrap64 ((Y:Int)*2 ^ (q % 8)) % 256))):=hnext
    have hold:old=0:=by rw [h8] at htop;simp at htop;exact htop
    have hBw:B≤wr.heap.size:=Nat.le_trans hB honly.size
    have h8':((q:Int) % 8 == 0)=true:=by simp;omega
    have hu:=hur.1
    rw [hlen'] at hu
    obtain ⟨au,cu,rfl⟩:∃ (x:Option Addr) (c:Nat),u=.slice x (q / 8) c:=by
     rcases hu.2 with ⟨rfl,h0⟩ | ⟨g',cap',cur',rfl,_⟩
     ·exact ⟨none,0,by rw [h0]⟩
     ·exact ⟨_,_,rfl⟩
    have c0:wr.cell? ⟨R,0,none⟩=some (.slice au (q / 8) cu):=cellR (j:=0) hRr rfl
    have c1:wr.cell? ⟨R,1,none⟩=some (.int .i64 (q:Nat)):=cellR (j:=1) hRr rfl
    have HRR:Hid (wr.heap[R]?=some (.cells #[.slice au (q / 8) cu,.int .i64 ((q:Nat):Int),.int .i64 room] 73 (0,0))):=hRr
    have HZR:Hid (∀ z ∈ Z,0≤z∧z≤255):=hur.2
    have HONLY:Hid (Only (fun k=>k=R∨v.ownBlock=some k) w wr):=honly
    have HROW:Hid ((Value.slice au (q / 8) cu).ownBlock=v.ownBlock∨∃ k,(Value.slice au (q / 8) cu).ownBlock=some k∧w.heap.size≤k):=hrow
    have HZL:Hid (Z.length=q / 8):=hlen'
    have huR:Hid (some R≠(Value.slice au (q / 8) cu).ownBlock):=by
     intro he
     rcases hu.2 with ⟨h',_⟩ | ⟨g',cap',cur',h',hg',hh,r⟩
     ·simp at h'
      rw [h'.1] at he
      simp [Value.ownBlock] at he
     ·simp at h'
      rw [h'.1] at he
      simp [Value.ownBlock] at he
      subst he
      rw [hRr] at hh
      simp at hh
    have HS:Hid (s=min (8-q % 8) (m-d)):=hs
    clear hnext hlast honly hrow hRr hlen hlen' hur hs
    go_wp2_with (at_builtin;(refine wpList_append_lies _ rfl (.tmp 53) (.tmp 54) 22 rfl B 5 i0 (.int .u8 0) 1 1 Tryz.underlying22 hi hz0 hz1 hz2 rfl (by decide) (.slice au (q / 8) cu) (q / 8) (Z.map (Value.int .u8)) rfl (hu.alloc _) ⟨wr.heap.size,0,none⟩ 1 1 [.int .u8 0] rfl rfl (by intro j y hj;match j,hj with | 0,hj=>(simp at hj;subst hj;simp [Addr.add])) (by intro y hy;simp at hy;subst hy;rfl) (by omega) (by unfold maxLen;omega) (by omega) (by simp;omega) _ rfl ?_);intro g cap w1 hown hgrow hat hlt1;have hR1:=app_keep hgrow HRR.out huR.out;have d0:=cellR (j:=0) hR1 rfl;have d1:=cellR (j:=1) hR1 rfl;have e0:=frozenR (j:=0) hR1)
    have G:=put_grown3 (v:=v) HRR.out huR.out HZR.out HZL.out hgrow hown hat HONLY.out HROW.out
    clear hown hgrow hat hR1 d0 d1 e0 c0 c1 hu hlt1
    generalize w1.setCell ⟨R,0,none⟩ (.slice (some ⟨g,0,none⟩) (q / 8+1) cap)=W at *
    obtain ⟨hRr,hown,honly,hrow'⟩:=G
    have hlen':(Z++[0]).length=q / 8+1:=by rw [List.length_append,HZL.out];rfl
    have CL:Hid _:=put_close3 (v:=v) (s:=s) hRr hlen' hown HNEXT.out HRNG.out honly hrow'
    have HROW2:Hid (v.ownBlock=some g∨w.heap.size≤g):=hrow'
    have hne:=hown.ne hRr (by decide)
    have c0:W.cell? ⟨R,0,none⟩=some (.slice (some ⟨g,0,none⟩) (q / 8+1) cap):=cellR (j:=0) hRr rfl
    have c1:W.cell? ⟨R,1,none⟩=some (.int .i64 (q:Nat)):=cellR (j:=1) hRr rfl
    have f1:=frozenR (j:=1) hRr
    have cg:W.cell? ⟨g,q / 8,none⟩=some (.int .u8 (old:Nat)):=by
     rw [hown.cell (q / 8) (by omega),hold]
     simp [←HZL.out]
    have fg:=hown.frozen (q / 8)
    clear hown honly hrow' hRr hlen' HNEXT HRNG h8 hold HRR HZR HONLY HROW HZL huR
    go_region
    go_wp2
    go_roundw
    case rel=>
     have hmin:(if (m:Int)-(d:Int)<8-(q:Int) % 8 then (m:Int)-(d:Int) else 8-(q:Int) % 8)=(s:Int):=by
      have:=HS.out
      split <;> omega
     rw [hmin]
     have C:=CL.out
     refine ⟨d+s,.slice (some ⟨g,0,none⟩) (q / 8+1) cap,by have:=HS.out;omega,congrArg (Value.int .i64) (by omega),congrArg (Value.int .i64) (by rw [HDIV.out];simp),?_,?_,?_,?_⟩
     ·rw [show n+(d+s)=q+s from by have:=HQ.out;omega];exact C.1
     ·rw [show n+(d+s)=q+s from by have:=HQ.out;omega,HPART.out];exact C.2.1
     ·exact C.2.2.drew
     ·rcases HROW2.out with h | h
      ·exact .inl h.symm
      ·exact .inr ⟨g,rfl,h⟩
    case measure=>
     have:=HS.out
     simp [intOf]
     split <;> omega
   ·rw [if_neg h8] at hnext
    have hlen':Z.length=q / 8+1:=by omega
    obtain ⟨g,cap,rfl,hown⟩:=hur.form (by omega)
    rw [hlen'] at hRr hrow
    have HNEXT:Hid (Z'=Z.set (q / 8) (bits .or .u8 (old:Int) (wrap64 ((Y:Int)*2 ^ (q % 8)) % 256))):=hnext
    have hrow':v.ownBlock=some g∨w.heap.size≤g:=by
     rcases hrow with h | ⟨kk,h,h'⟩
     ·exact .inl (h.symm.trans rfl)
     ·right
      simp [Value.ownBlock] at h
      omega
    have CL:Hid _:=put_close3 (v:=v) (s:=s) hRr hlen' hown HNEXT.out HRNG.out honly hrow'
    have HROW:Hid (v.ownBlock=some g∨w.heap.size≤g):=hrow'
    have hne:=hown.ne hRr (by decide)
    have c0:wr.cell? ⟨R,0,none⟩=some (.slice (some ⟨g,0,none⟩) (q / 8+1) cap):=cellR (j:=0) hRr rfl
    have c1:wr.cell? ⟨R,1,none⟩=some (.int .i64 (q:Nat)):=cellR (j:=1) hRr rfl
    have f1:=frozenR (j:=1) hRr
    have cg:=hown.cell (q / 8) (by omega)
    have fg:=hown.frozen (q / 8)
    rw [hlast h8] at cg
    have h8':((q:Int) % 8 == 0)=false:=by simp;omega
    have HS:Hid (s=min (8-q % 8) (m-d)):=hs
    clear hnext hlast hown honly hrow hrow' hRr hlen hlen' hur HNEXT HRNG h8 hs
    go_wp2
    go_region
    go_wp2
    go_roundw
    case rel=>
     have hmin:(if (m:Int)-(d:Int)<8-(q:Int) % 8 then (m:Int)-(d:Int) else 8-(q:Int) % 8)=(s:Int):=by
      have:=HS.out
      split <;> omega
     rw [hmin]
     have C:=CL.out
     refine ⟨d+s,.slice (some ⟨g,0,none⟩) (q / 8+1) cap,by have:=HS.out;omega,congrArg (Value.int .i64) (by omega),congrArg (Value.int .i64) (by rw [HDIV.out];simp),?_,?_,?_,?_⟩
     ·rw [show n+(d+s)=q+s from by have:=HQ.out;omega];exact C.1
     ·rw [show n+(d+s)=q+s from by have:=HQ.out;omega,HPART.out];exact C.2.1
     ·exact C.2.2.drew
     ·rcases HROW.out with h | h
      ·exact .inl h.symm
      ·exact .inr ⟨g,rfl,h⟩
    case measure=>
     have:=HS.out
     simp [intOf]
     split <;> omega
  ·have hdm':d=m:=by omega
   subst hdm'
   rw [Nat.mod_eq_of_lt HXM.out] at hur
   have HF:Hid _:=(⟨hRr,hur,honly,hrow⟩:_∧_∧_∧_)
   clear hRr hur honly hrow
   go_wp2
   go_ret
   have F:=HF.out
   exact ⟨rfl,u,F.1,F.2.1,F.2.2.1,F.2.2.2⟩
theorem OwnV.blk {w:World} {B:Nat} {v:Value} {zs:List Int} (h:OwnV w B v zs) {k:Nat} (hk:v.ownBlock=some k):B≤k:=by
 rcases h.1.2 with ⟨rfl,h0⟩ | ⟨g,cap,cur,rfl,hg,_⟩
 ·simp [Value.ownBlock] at hk
 ·simp [Value.ownBlock] at hk
  omega
def WI (w:World) (B R n V:Nat):Prop:=∃ v,w.heap[R]?=some (.cells #[v,.int .i64 n,.int .i64 4096] 73 (0,0))∧OwnV w B v (enc n V)∧V<2 ^ n∧B≤R∧B≤w.heap.size
def SI (w:World) (B R n V:Nat):Prop:=∃ v,w.heap[R]?=some (.cells #[v,.int .i64 n] 40 (0,0))∧OwnV w B v (enc n V)∧V<2 ^ n∧B≤R∧B≤w.heap.size
theorem SI.put {w:World} {B R n V:Nat} (h:SI w B R n V) (x width:Int) (hx:0≤x) (h1:0≤width) (h2:width≤30) (hxw:x<2 ^ width.toNat) (hn:n≤4096) :
  Calls Tryz.prog 52 #[.pointer (some ⟨R,0,none⟩),.int .i64 x,.int .i64 width] w fun e w'=>e=.returned (.tuple #[])∧SI w' B R (n+width.toNat) (V+x.toNat*2 ^ n)∧Below B w w':=by
 obtain ⟨v,hR,hv,hV,hBR,hB⟩:=h
 have e:((2:Int) ^ width.toNat)=((2 ^ width.toNat:Nat):Int):=by simp
 rw [e] at hxw
 have hp:2 ^ width.toNat≤2 ^ 30:=Nat.pow_le_pow_right (by omega) (by omega)
 refine (l1put_any R B v n V x width w hR hv hV hB hx (by omega) h1 h2 (by omega)).mono ?_
 rintro e w' ⟨rfl,v',hR',hv',ho,_⟩
 rw [Nat.mod_eq_of_lt (by omega)] at hv'
 have hb:Below B w w':=ho.below hB (fun k hk=>by
  rcases hk with hk | hk
  ·omega
  ·exact hv.blk hk)
 exact ⟨rfl,⟨v',hR',hv',put_lt n V width.toNat x.toNat hV (by omega),hBR,Nat.le_trans hB hb.size⟩,hb⟩
theorem WI.drewN {w:World} {B R n V:Nat} (h:WI w B R n V) (m:Nat):WI (w.drewN m) B R n V:=h
theorem enc_zero :enc 0 0=[]:=by
 have:=enc_len 0 0
 exact List.eq_nil_of_length_eq_zero (by simpa using this)
theorem SI.new (w:World) (B:Nat) (hB:B≤w.heap.size):SI (w.alloc (.cells #[.slice none 0 0,.int .i64 0] 40)) B w.heap.size 0 0:=by
 refine ⟨.slice none 0 0,by simpa using heap_alloc_new w (.cells #[.slice none 0 0,.int .i64 0] 40),?_,by simp,hB,by simp;omega⟩
 rw [enc_zero]
 exact ⟨⟨rfl,.inl ⟨rfl,rfl⟩⟩,by simp⟩
theorem WI.new {w:World} {B R g:Nat} (hR:w.heap[R]?=some (.cells #[.slice (some ⟨g,0,none⟩) ([]:List Int).length ([]:List Int).length,.int .i64 0,.int .i64 4096] 73 (0,0))) (ho:Own w B g ([]:List Int).length []) (hBR:B≤R) (hB:B≤w.heap.size):WI w B R 0 0:=by
 refine ⟨_,by simpa using hR,?_,by simp,hBR,hB⟩
 rw [enc_zero]
 exact ho.v
theorem put_at (V0 V x n0 N:Nat):V0+V*2 ^ n0+x*2 ^ (n0+N)=V0+(V+x*2 ^ N)*2 ^ n0:=by
 rw [Nat.add_mul,Nat.add_assoc,Nat.mul_assoc,←Nat.pow_add,Nat.add_comm N n0]
theorem OwnV.neP {w:World} {B k R:Nat} {v:Value} {zs:List Int} {cur:Array Value} {T:TypeId} (h:OwnV w B v zs) (hk:v.ownBlock=some k) (hR:w.heap[R]?=some (.cells cur T (0,0))) (hT:T≠5):k≠R:=by
 rcases h.1.2 with ⟨rfl,h2⟩ | ⟨g,cap,cur',rfl,hg,hh,r⟩
 ·simp [Value.ownBlock] at hk
 ·simp [Value.ownBlock] at hk
  subst hk
  rintro rfl
  rw [hR] at hh
  simp at hh
  exact hT hh.2
theorem OwnV.stayP {w w':World} {B:Nat} {v:Value} {zs:List Int} (h:OwnV w B v zs) (hb:Below w.heap.size w w'):OwnV w' B v zs:=by
 rcases h.1.2 with ⟨h1,h2⟩ | ⟨g,cap,cur,rfl,hg,hh,r⟩
 ·exact ⟨⟨h.1.1,.inl ⟨h1,h2⟩⟩,h.2⟩
 ·exact ⟨⟨h.1.1,.inr ⟨g,cap,cur,rfl,hg,(hb.block g (Array.getElem?_eq_some_iff.1 hh).1).trans hh,r⟩⟩,h.2⟩
theorem WI.stay {w w':World} {B R n V:Nat} (h:WI w B R n V) (hb:Below w.heap.size w w'):WI w' B R n V:=by
 obtain ⟨v,h1,h2,h3,h4,h5⟩:=h
 exact ⟨v,(hb.block R (Array.getElem?_eq_some_iff.1 h1).1).trans h1,h2.stayP hb,h3,h4,Nat.le_trans h5 hb.size⟩
theorem SI.stay {w w':World} {B R n V:Nat} (h:SI w B R n V) (hb:Below w.heap.size w w'):SI w' B R n V:=by
 obtain ⟨v,h1,h2,h3,h4,h5⟩:=h
 exact ⟨v,(hb.block R (Array.getElem?_eq_some_iff.1 h1).1).trans h1,h2.stayP hb,h3,h4,Nat.le_trans h5 hb.size⟩
theorem WI.putG {w:World} {B R n V:Nat} (h:WI w B R n V) {g:Nat} {cur:Array Value} {T:TypeId} (hg:w.heap[g]?=some (.cells cur T (0,0))) (hT:T≠5) (hgR:g≠R) (x width:Nat) (h2:width≤30) (hxw:x<2 ^ width) (h3:n+width≤4096) :
  Calls Tryz.prog 79 #[.pointer (some ⟨R,0,none⟩),.int .i64 (x:Int),.int .i64 (width:Int)] w fun e w'=>e=.returned .nilIface∧WI w' B R (n+width) (V+x*2 ^ n)∧Below B w w'∧w'.heap[g]?=some (.cells cur T (0,0)):=by
 obtain ⟨v,hR,hv,hV,hBR,hB⟩:=h
 have hxi:(x:Int)<2 ^ ((width:Int)).toNat:=by
  have e:((2:Int) ^ width)=((2 ^ width:Nat):Int):=by simp
  rw [Int.toNat_natCast,e]
  exact Int.ofNat_lt.2 hxw
 refine (wput_yes R B v n V x width 4096 w hR hv hV hB (by omega) (by omega) (by omega) hxi (by omega) (by omega) (by omega)).mono ?_
 rintro e w' ⟨rfl,v',hR',hv',ho,_⟩
 have hb:Below B w w':=ho.below hB (fun k hk=>by
  rcases hk with hk | hk
  ·omega
  ·exact hv.blk hk)
 simp only [Int.toNat_natCast] at hR' hv'
 refine ⟨rfl,⟨v',hR',hv',put_lt n V width x hV hxw,hBR,Nat.le_trans hB hb.size⟩,hb,?_⟩
 refine (ho.block g (Array.getElem?_eq_some_iff.1 hg).1 ?_).trans hg
 rintro (hk | hk)
 ·exact hgR hk
 ·exact hv.neP hk hg hT rfl
theorem OwI.blockG {w w':World} {B g cap:Nat} {zs:List Int} (h:OwI w B g cap zs):∃ cur,w.heap[g]?=some (.cells cur 3 (0,0))∧(w'.heap[g]?=some (.cells cur 3 (0,0))→OwI w' B g cap zs):=by
 rcases h.1.2 with ⟨h',_⟩ | ⟨g',cap',cur,h',hg,hh,r⟩
 ·simp at h'
 ·have e:g'=g:=by simp at h';exact h'.1.symm
  subst e
  exact ⟨cur,hh,fun hk=>⟨⟨h.1.1,.inr ⟨g',cap',cur,h',hg,hk,r⟩⟩,h.2⟩⟩
def OVI (w:World) (B:Nat) (v:Value) (zs:List Int):Prop:=w.ownsRow B 3 1 v zs.length (zs.map (Value.int .i64))∧∀ z ∈ zs,-9223372036854775808≤z∧z≤9223372036854775807
theorem OVI.nil (w:World) (B:Nat):OVI w B (.slice none 0 0) []:=⟨⟨rfl,.inl ⟨rfl,rfl⟩⟩,by simp⟩
theorem OVI.form {w:World} {B:Nat} {v:Value} {zs:List Int} (h:OVI w B v zs):∃ (a:Option Addr) (c:Nat),v=.slice a zs.length c:=by
 rcases h.1.2 with ⟨rfl,h0⟩ | ⟨g,cap,cur,rfl,_⟩
 ·exact ⟨none,0,by rw [h0]⟩
 ·exact ⟨_,_,rfl⟩
theorem OVI.blk {w:World} {B:Nat} {v:Value} {zs:List Int} (h:OVI w B v zs) {k:Nat} (hk:v.ownBlock=some k):B≤k:=by
 rcases h.1.2 with ⟨rfl,h0⟩ | ⟨g,cap,cur,rfl,hg,_⟩
 ·simp [Value.ownBlock] at hk
 ·simp [Value.ownBlock] at hk
  omega
theorem OVI.mine {w:World} {B:Nat} {v:Value} {zs:List Int} (h:OVI w B v zs):∃ (a:Option Addr) (cp:Nat),v=.slice a zs.length cp∧MinI w B w.heap.size a cp zs:=by
 rcases h.1.2 with ⟨rfl,h0⟩ | ⟨g,cap,cur,rfl,hg,hh,r⟩
 ·exact ⟨none,0,by rw [h0],.inl ⟨rfl,List.eq_nil_of_length_eq_zero h0,rfl⟩⟩
 ·exact ⟨some ⟨g,0,none⟩,cap,rfl,OwI.mine (cap:=cap) h⟩
theorem OVI.app {w1:World} {B g cap n:Nat} {zs:List Int} {x:Int} (hl:zs.length=n) (hr:∀ z ∈ zs,-9223372036854775808≤z∧z≤9223372036854775807) (hx:-9223372036854775808≤x∧x≤9223372036854775807)
  (hown:w1.ownsRow B 3 1 (.slice (some ⟨g,0,none⟩) (n+1) cap) (n+1) (zs.map (Value.int .i64)++[.int .i64 x])):OVI w1 B (.slice (some ⟨g,0,none⟩) (n+1) cap) (zs++[x]):=by
 refine ⟨?_,?_⟩
 ·have e:(zs++[x]).length=n+1:=by simp [hl]
  rw [e]
  simpa using hown
 ·intro z hz
  simp only [List.mem_append,List.mem_singleton] at hz
  rcases hz with hz | rfl
  ·exact hr z hz
  ·exact hx
theorem app_below {w0 wr w1:World} {B:Nat} {o:Obj} {v:Value} {zs:List Int} (hbel:Below B w0 wr) (hB:B≤wr.heap.size) (h:OVI wr B v zs) (hg:(wr.alloc o).grownBy w1 v.ownBlock):Below B w0 w1:=
 (hbel.alloc hB o).grown hg (by simp;omega) (fun k hk=>h.blk hk)
theorem OVI.only {S:Nat→Prop} {w w':World} {B:Nat} {v:Value} {zs:List Int} (h:OVI w B v zs) (ho:Only S w w') (hs:∀ k,B≤k→¬S k):OVI w' B v zs:=by
 refine ⟨⟨h.1.1,?_⟩,h.2⟩
 rcases h.1.2 with h' | ⟨g,cap,cur,h',hg,hh,r⟩
 ·exact .inl h'
 ·exact .inr ⟨g,cap,cur,h',hg,(ho.block g (Array.getElem?_eq_some_iff.1 hh).1 (hs g hg)).trans hh,r⟩
def atL (zs:List Int) (L i:Nat):List Int:=((List.range i).filter (fun s=>decide (zs.getD s 0=(L:Int)))).map (fun s=>((s:Nat):Int))
def sbL (zs:List Int):Nat→List Int
 | 0=>[]
 | l+1=>sbL zs l++atL zs (l+1) zs.length
theorem atL_zero (zs:List Int) (L:Nat):atL zs L 0=[]:=by simp [atL]
theorem atL_yes (zs:List Int) (L i:Nat) (h:zs.getD i 0=(L:Int)):atL zs L (i+1)=atL zs L i++[(i:Int)]:=by
 unfold atL
 rw [List.range_succ,List.filter_append,List.map_append]
 congr 1
 rw [List.filter_cons_of_pos (by simpa using h)]
 simp
theorem atL_no (zs:List Int) (L i:Nat) (h:¬zs.getD i 0=(L:Int)):atL zs L (i+1)=atL zs L i:=by
 unfold atL
 rw [List.range_succ,List.filter_append,List.map_append]
 rw [List.filter_cons_of_neg (by simpa using h)]
 simp
theorem atL_len (zs:List Int) (L i:Nat):(atL zs L i).length≤i:=by
 unfold atL
 rw [List.length_map]
 have:=List.length_filter_le (fun s=>decide (zs.getD s 0=(L:Int))) (List.range i)
 simpa using this
theorem sbL_len (zs:List Int) (l:Nat):(sbL zs l).length≤l*zs.length:=by
 induction l with
 | zero=>simp [sbL]
 | succ l ih=>
  have:=atL_len zs (l+1) zs.length
  simp only [sbL,List.length_append,Nat.add_mul]
  omega
theorem atL_mem (zs:List Int) (L i:Nat):∀ z ∈ atL zs L i,∃ s:Nat,z=s∧s<i∧zs.getD s 0=(L:Int):=by
 intro z hz
 simp only [atL,List.mem_map,List.mem_filter,List.mem_range,decide_eq_true_eq] at hz
 obtain ⟨s,⟨h1,h2⟩,rfl⟩:=hz
 exact ⟨s,rfl,h1,h2⟩
theorem sbL_mem (zs:List Int) (l:Nat):∀ z ∈ sbL zs l,∃ s:Nat,z=s∧s<zs.length∧1≤zs.getD s 0∧zs.getD s 0≤(l:Int):=by
 induction l with
 | zero=>simp [sbL]
 | succ l ih=>
  intro z hz
  simp only [sbL,List.mem_append] at hz
  rcases hz with hz | hz
  ·obtain ⟨s,h1,h2,h3,h4⟩:=ih z hz
   exact ⟨s,h1,h2,h3,by omega⟩
  ·obtain ⟨s,h1,h2,h3⟩:=atL_mem _ _ _ z hz
   exact ⟨s,h1,h2,by omega,by omega⟩
theorem syms_any (a:Option Addr) (cap:Nat) (zs:List Int) (w:World) (hb:Ins w a zs) (hn:zs.length≤80) :
  Calls Tryz.prog 146 #[.slice a zs.length cap] w fun e w'=>
   ∃ a' cp,e=.returned (.slice a' (sbL zs 12).length cp)∧MinI w' w.heap.size w'.heap.size a' cp (sbL zs 12)∧Below w.heap.size w w':=by
 obtain ⟨i0,hi,hz0,hz1,hz2⟩:=info_parts Tryz.infoI64
 have HSB:Hid (∀ l,sbL zs (l+1)=sbL zs l++atL zs (l+1) zs.length):=fun _=>rfl
 have HSL:Hid _:=sbL_len zs
 have HAY:Hid _:=atL_yes zs
 have HAN:Hid _:=atL_no zs
 have HAZ:Hid _:=atL_zero zs
 have HAL:Hid _:=atL_len zs
 generalize hlen:zs.length=n at *
 have HL:Hid (zs.length=n):=hlen
 clear hlen
 go_enter Tryz.func146,Tryz.ntmps146
 go_wp2
 go_loopw [3,4] (fun o l wr=>∃ (M:Nat) (y:Int),y=M∧1≤M∧M≤13∧l=.int .i64 y∧OVI wr w.heap.size o (sbL zs (M-1))∧Below w.heap.size w wr) (fun _ l _=>13-(intOf l).toNat)
 case atStart=>exact ⟨1,1,rfl,by omega,by omega,rfl,OVI.nil _ _,Below.refl _ _⟩
 case round=>
  obtain ⟨M,y,hy,hM1,hM,rfl,hov,hbel⟩:=hrel
  obtain ⟨ao,co,rfl⟩:=hov.form
  have hsl:=HSL.out (M-1)
  have hlb:(M-1)*n≤12*80:=Nat.mul_le_mul (by omega) hn
  have hm:(sbL zs (M-1)).length≤960:=by omega
  have HOV:Hid (OVI wr w.heap.size (.slice ao (sbL zs (M-1)).length co) (sbL zs (M-1))):=hov
  clear hov hsl hlb
  have HMY:Hid (y=(M:Int)):=hy
  have HM1:Hid (1≤M∧M≤13):=⟨hM1,hM⟩
  have hy1:1≤y∧y≤13:=by omega
  clear hy hM1 hM
  by_cases hL12:y≤12
  ·have HB0:Hid (Below w.heap.size w wr):=hbel
   have HMS:Hid (sbL zs (M+1-1)=sbL zs (M-1)++atL zs M n):=by
    obtain ⟨l,rfl⟩:∃ l,M=l+1:=⟨M-1,by have:=HM1.out;omega⟩
    exact HSB.out l
   clear hbel
   generalize sbL zs (M-1)=q0 at *
   generalize hm0:q0.length=m0 at *
   have HM0:Hid (q0.length=m0):=hm0
   clear hm0
   go_wp2
   go_loopw [3,13] (fun o i wi=>∃ k:Nat,k≤n∧i=.int .i64 k∧OVI wi w.heap.size o (q0++atL zs M k)∧Below w.heap.size w wi) (fun _ i _=>n-(intOf i).toNat)
   case atStart=>exact ⟨0,Nat.zero_le _,rfl,by rw [HAZ.out,List.append_nil];exact HOV.out,HB0.out⟩
   case round=>
    clear HOV HB0
    obtain ⟨k,hk,rfl,hov,hbel⟩:=hrel
    by_cases hlt:k<n
    ·obtain ⟨b1,o1,rfl,hb1,hc1⟩:=(hb.below hbel nl).len_pos k (by rw [HL.out];exact hlt)
     have hs1:=hc1 k (by rw [HL.out];exact hlt)
     have g1:=getD_rngI hb.1 k
     have hal:=HAL.out M k
     have HY:=HAY.out M k
     have HN:=HAN.out M k
     obtain ⟨au,cu,rfl⟩:=hov.form
     have hsz:=hbel.size
     clear hc1
     generalize zs.getD k 0=x at *
     have hlen2:(q0++atL zs M k).length≤2000:=by rw [List.length_append,HM0.out];omega
     clear hal
     generalize hq:q0++atL zs M k=q at *
     by_cases hx:x=y
     ·have HE:Hid (q++[(k:Int)]=q0++atL zs M (k+1)):=by unfold Hid;rw [HY (hx.trans HMY.out),←List.append_assoc,hq]
      have HQR:Hid (∀ z ∈ q,-9223372036854775808≤z∧z≤9223372036854775807):=hov.2
      have hu:=hov.1
      have HOV:Hid (OVI wr w.heap.size (.slice au q.length cu) q):=hov
      clear HY HN hq hov
      subst hx
      generalize hql:q.length=m at *
      have HQL:Hid (q.length=m):=hql
      clear hql
      go_wp2_with (at_builtin;(refine wpList_append_lies _ rfl (.tmp 21) (.tmp 23) 38 rfl w.heap.size 3 i0 (.int .i64 0) 1 8 Tryz.underlying38 hi hz0 hz1 hz2 rfl (by decide) (.slice au m cu) m (q.map (Value.int .i64)) rfl (hu.alloc _) ⟨wr.heap.size,0,none⟩ 1 1 [.int .i64 (k:Nat)] rfl rfl (by intro j y hj;match j,hj with | 0,hj=>(simp at hj;subst hj;simp [Addr.add])) (by intro y hy;simp at hy;subst hy;rfl) (by omega) (by unfold maxLen;omega) (by omega) (by simp;omega) _ rfl ?_);intro g cap1 w1 hown hgrow hat hlt1)
      have HOV2:Hid (OVI w1 w.heap.size (.slice (some ⟨g,0,none⟩) (m+1) cap1) (q++[(k:Int)])):=OVI.app HQL.out HQR.out (by omega) hown
      have HB2:Hid (Below w.heap.size w w1):=app_below hbel hsz HOV.out hgrow
      clear hown hgrow hat hlt1 HOV hu hbel
      go_roundw
      case rel=>exact ⟨k+1,by omega,by go_num,by rw [←HE.out];exact HOV2.out,HB2.out⟩
      case measure=>simp [intOf];omega
     ·have HE:Hid (q=q0++atL zs M (k+1)):=by unfold Hid;rw [HN (fun h=>hx (h.trans HMY.out.symm)),hq]
      have hxx:(x == y)=false:=by simpa using hx
      have HOV:Hid _:=hov
      clear HY HN hq hov hx
      go_wp2
      go_roundw
      case rel=>exact ⟨k+1,by omega,by go_num,by rw [←HE.out];exact HOV.out,hbel⟩
      case measure=>simp [intOf];omega
    ·have hkn:k=n:=by omega
     subst hkn
     obtain ⟨au,cu,rfl⟩:=hov.form
     have HOV:Hid _:=hov
     clear hov
     go_wp2
     go_roundw
     case rel=>exact ⟨M+1,y+1,by have:=HMY.out;omega,by omega,by have:=HMY.out;omega,by go_num,by rw [HMS.out];exact HOV.out,hbel⟩
     case measure=>simp [intOf];omega
  ·have hLe:M=13:=by have:=HMY.out;have:=HM1.out;omega
   subst hLe
   have HOV2:Hid (OVI wr w.heap.size (.slice ao (sbL zs (13-1)).length co) (sbL zs 12)):=HOV.out
   clear HOV
   go_wp2
   go_ret
   obtain ⟨a',cp,he,hmm⟩:=HOV2.out.mine
   exact ⟨a',cp,congrArg Ending.returned he,hmm,hbel⟩
end Go.Proofs.YtfeokafkhnbdiaaGreatDoor
