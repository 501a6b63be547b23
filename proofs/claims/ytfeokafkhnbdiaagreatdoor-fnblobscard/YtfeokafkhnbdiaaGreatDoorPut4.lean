/- Lemmas on the way. -/
import Derived.Test.YtfeokafkhnbdiaaGreatDoorPcB
import Derived.Test.YtfeokafkhnbdiaaGreatDoorPut1
import Derived.Laws.CopyOwn
set_option maxRecDepth 20000
set_option maxHeartbeats 16000000
namespace Go.Proofs.YtfeokafkhnbdiaaGreatDoor
open Go.RowKit
set_option linter.unusedVariables false
def okB (N:Int) (zs:List Int):Bool:=
 decide (0≤N∧N≤4096∧(zs.length:Int)=(N+7) / 8) && (N % 8 == 0 || zs.getD (zs.length-1) 0 / 2 ^ (N % 8).toNat == 0)
theorem okB_neg {N:Int} {zs:List Int} (h:N<0):okB N zs=false:=by
 have:decide (0≤N∧N≤4096∧(zs.length:Int)=(N+7) / 8)=false:=by simp;omega
 rw [okB,this,Bool.false_and]
theorem okB_big {N:Int} {zs:List Int} (h:4096<N):okB N zs=false:=by
 have:decide (0≤N∧N≤4096∧(zs.length:Int)=(N+7) / 8)=false:=by simp;omega
 rw [okB,this,Bool.false_and]
theorem okB_len {N:Int} {zs:List Int} (h:¬(zs.length:Int)=(N+7) / 8):okB N zs=false:=by
 have:decide (0≤N∧N≤4096∧(zs.length:Int)=(N+7) / 8)=false:=by simp;omega
 rw [okB,this,Bool.false_and]
theorem okB_full {N:Int} {zs:List Int} (h0:0≤N) (h1:N≤4096) (h2:(zs.length:Int)=(N+7) / 8) (h3:N % 8=0):okB N zs=true:=by
 have:decide (0≤N∧N≤4096∧(zs.length:Int)=(N+7) / 8)=true:=by simp;exact ⟨h0,h1,h2⟩
 rw [okB,this,h3];rfl
theorem okB_last {N:Int} {zs:List Int} (h0:0≤N) (h1:N≤4096) (h2:(zs.length:Int)=(N+7) / 8) (h3:¬N % 8=0):okB N zs=(zs.getD (zs.length-1) 0 / 2 ^ (N % 8).toNat == 0):=by
 have:decide (0≤N∧N≤4096∧(zs.length:Int)=(N+7) / 8)=true:=by simp;exact ⟨h0,h1,h2⟩
 have h3':(N % 8 == 0)=false:=by simpa using h3
 rw [okB,this,h3',Bool.true_and,Bool.false_or]
theorem okB_enc {N:Int} {zs:List Int} (h:okB N zs=true) (hr:∀ z ∈ zs,0≤z∧z≤255):∃ n:Nat,N=n∧n≤4096∧zs=enc n (val zs)∧val zs<2 ^ n:=by
 simp only [okB,Bool.and_eq_true,decide_eq_true_eq,Bool.or_eq_true,beq_iff_eq] at h
 obtain ⟨⟨h0,h1,h2⟩,h3⟩:=h
 obtain ⟨n,rfl⟩:=Int.eq_ofNat_of_zero_le h0
 have:=val_bits n zs hr (by omega) (by
  rcases h3 with h3 | h3
  ·exact .inl (by omega)
  ·refine .inr ?_
   have hz:=getD_rng hr (zs.length-1)
   obtain ⟨z,hz'⟩:=Int.eq_ofNat_of_zero_le hz.1
   rw [hz'] at h3 ⊢
   rw [show ((n:Int) % 8).toNat=n % 8 from by omega] at h3
   have h4:((z / 2 ^ (n % 8):Nat):Int)=0:=by simpa using h3
   rw [Int.toNat_natCast]
   have h5:z / 2 ^ (n % 8)=0:=by omega
   exact (Nat.div_eq_zero_iff_lt (Nat.pow_pos (by omega))).1 h5)
 exact ⟨n,rfl,by omega,this.2,this.1⟩
theorem wrap_pow (m:Nat) (h:m≤31):wrap64 (2 ^ m)=2 ^ m:=by
 have h1:2 ^ m≤2 ^ 31:=Nat.pow_le_pow_right (by omega) h
 have e:((2:Int) ^ m)=((2 ^ m:Nat):Int):=by simp
 rw [e]
 generalize 2 ^ m=y at *
 exact IntWalk.wrap64_in _ (by omega)
theorem OwnV.mine {w:World} {B:Nat} {v:Value} {zs:List Int} (h:OwnV w B v zs):∃ (a:Option Addr) (cp:Nat),v=.slice a zs.length cp∧Mine w B w.heap.size a cp zs:=by
 rcases h.1.2 with ⟨rfl,h0⟩ | ⟨g,cap,cur,rfl,hg,hh,r⟩
 ·exact ⟨none,0,by rw [h0],.inl ⟨rfl,List.eq_nil_of_length_eq_zero h0,rfl⟩⟩
 ·exact ⟨some ⟨g,0,none⟩,cap,rfl,Own.mine (cap:=cap) h⟩
def putOk (N n width:Int) (zs:List Int):Prop:=okB N zs=true∧0≤width∧width≤30∧0≤n∧n<2 ^ width.toNat∧width≤4096-N
theorem widthOk_any (n:Int) (w:World):Calls Tryz.prog 91 #[.int .i64 n] w fun e w'=>e=.returned (.bool (decide (0≤n∧n≤30)))∧w'=w:=by
 by_cases h0:0≤n
 ·by_cases h1:n≤30
  ·have hE:decide (0≤n∧n≤30)=true:=by simp [h0,h1]
   rw [hE]
   clear hE
   go_enter Tryz.func91,Tryz.ntmps91
   go_wp2
   go_ret
   exact ⟨by simp,rfl⟩
  ·have hE:decide (0≤n∧n≤30)=false:=by simp [h1]
   rw [hE]
   clear hE
   go_enter Tryz.func91,Tryz.ntmps91
   go_wp2
   go_ret
   exact ⟨by simp,rfl⟩
 ·have hE:decide (0≤n∧n≤30)=false:=by simp [h0]
  rw [hE]
  clear hE
  go_enter Tryz.func91,Tryz.ntmps91
  go_wp2
  go_ret
  exact ⟨by simp,rfl⟩
def Sent (w:World) (g:Nat):Prop:=∃ T x,w.cell? ⟨g,0,none⟩=some (.iface T x)
theorem Sent.below {w w':World} {g B:Nat} (h:Sent w g) (hb:Below B w w') (hg:g<B):Sent w' g:=by
 obtain ⟨T,x,hc⟩:=h
 exact ⟨T,x,keep hb hg hc⟩
theorem made_block {w:World} {B g n:Nat} (h:w.ownsRow B 5 1 (.slice (some ⟨g,0,none⟩) n n) n (madeCells (Value.int .u8 0).cells (n*1)).toList) :
  w.heap[g]?=some (.cells ((List.replicate n (0:Int)).map (Value.int .u8)).toArray 5 (0,0)):=by
 rcases h.2 with ⟨h',_⟩ | ⟨g',cap',cur,h',hg,hh,h1,h2,h3,h4⟩
 ·simp at h'
 ·simp only [Value.slice.injEq,Option.some.injEq,Addr.mk.injEq,and_true,true_and] at h'
  obtain ⟨rfl,rfl⟩:=h'
  rw [hh,←made_zero,←h4]
  rw [List.take_of_length_le (by simp [h3])]
theorem own_block {w:World} {B g:Nat} {zs:List Int} (hB:B≤g) (h:w.heap[g]?=some (.cells (zs.map (Value.int .u8)).toArray 5 (0,0))) (hr:∀ z ∈ zs,0≤z∧z≤255) (hl:zs.length≤1048576):Own w B g zs.length zs:=
 ⟨⟨by simp,.inr ⟨g,zs.length,_,rfl,hB,h,Nat.le_refl _,by unfold maxLen;omega,by simp,by rw [Nat.mul_one];exact List.take_of_length_le (by simp)⟩⟩,hr⟩
theorem newWriter_any (a:Option Addr) (cap:Nat) (zs:List Int) (N room:Int) (w:World) (hb:Byt w a zs) (hn:zs.length≤1048576) :
  Calls Tryz.prog 42 #[.agg #[.slice a zs.length cap,.int .i64 N],.int .i64 room] w fun e w'=>
   ∃ R g,e=.returned (.pointer (some ⟨R,0,none⟩))∧w'.heap[R]?=some (.cells #[.slice (some ⟨g,0,none⟩) zs.length zs.length,.int .i64 N,.int .i64 room] 73 (0,0)) ∧
    Own w' w.heap.size g zs.length zs∧w.heap.size≤R∧Below w.heap.size w w':=by
 obtain ⟨i0,hi,hz0,hz1,hz2⟩:=info_parts Tryz.infoU8
 have hsz:(Tryz.prog.info? 5).map (·.size)=some 1:=by rw [hi];simp [hz1]
 generalize hlen:zs.length=n at *
 have HL:Hid (zs.length=n):=hlen
 clear hlen
 go_enter Tryz.func42,Tryz.ntmps42
 have hone:=oneCells zs
 have hsrc:∀ W:World,(∀ b o,b<w.heap.size→W.cell? ⟨b,o,none⟩=w.cell? ⟨b,o,none⟩)→0<(zs.map (Value.int .u8)).length→∃ ad,a=some ad∧∀ j u,(zs.map (Value.int .u8))[j]?=some u→W.cell? (ad.add j)=some u:=by
  intro W hW hp
  obtain ⟨b,off,rfl,hbl,hc⟩:=hb.2 (by simpa using hp)
  exact ⟨_,rfl,news_of (fun i hi=>(hW b (off+i) hbl).trans (hc i hi))⟩
 have HSRC:Hid (∀ W:World,(∀ b o,b<w.heap.size→W.cell? ⟨b,o,none⟩=w.cell? ⟨b,o,none⟩)→0<(zs.map (Value.int .u8)).length→∃ ad,a=some ad∧∀ j u,(zs.map (Value.int .u8))[j]?=some u→W.cell? (ad.add j)=some u):=hsrc
 clear hsrc
 go_wp2_with (first
  | (at_make;refine wpList_make_full _ rfl _ _ 22 rfl w.heap.size 5 i0 (.int .u8 0) 1 Tryz.underlying22 hi hz0 hz1 .i64 .i64 _ _ n rfl rfl rfl rfl (by rw [hz2];omega) (by unfold maxLen;omega) (by simp) ?_;intro w1 hown hgrow;have hbel1:Below (w.heap.size+1) (w.alloc (Obj.cells #[.slice a n cap,.int .i64 N] 40)) w1:=(Below.refl _ _).grown hgrow (by simp) (by intro k hk;cases hk);have p0:w1.cell? ⟨w.heap.size,0,none⟩=some (.slice a n cap):=keep hbel1 (by omega) (by simp);have hblk:=made_block hown;simp only [World.size_alloc] at hblk;have HBLK:Hid (w1.heap[w.heap.size+1]?=some (.cells ((List.replicate n (0:Int)).map (Value.int .u8)).toArray 5 (0,0))):=hblk;clear hown hgrow hblk)
  | (have _t:=HBLK;refine wpList_copy_splice rfl (.tmp 10) (.tmp 12) 22 22 rfl 5 Tryz.underlying22 hsz (some ⟨w.heap.size+1,0,none⟩) a n n n cap rfl rfl (w.heap.size+1) 0 ((List.replicate n (0:Int)).map (Value.int .u8)) 5 HBLK.out (zs.map (Value.int .u8)) (by have:=HL.out;simp [this]) (fun hp=>⟨rfl,HSRC.out _ (fun b o hb=>(hbel1.cell (p:=⟨b,o,none⟩) (by simp;omega)).trans (by exact (Below.cell ((Below.refl w.heap.size w).alloc nl _) (p:=⟨b,o,none⟩) hb))) hp⟩) (by have:=HL.out;simp [this]) hone (w.heap.size+1) _ hbel1 nl ?_;intro w2 hblk2 hbel2;have p0':w2.cell? ⟨w.heap.size,0,none⟩=some (.slice a n cap):=keep hbel2 (by omega) (by simp);have p1':w2.cell? ⟨w.heap.size,1,none⟩=some (.int .i64 N):=keep hbel2 (by omega) (by simp)))
 have hbl2:=hblk2.out
 have hspl:splice ((List.replicate n (0:Int)).map (Value.int .u8)) 0 (zs.map (Value.int .u8))=zs.map (Value.int .u8):=by
  unfold splice
  rw [List.drop_of_length_le (by have:=HL.out;simp [this])]
  simp
 rw [hspl] at hbl2
 have ho:=own_block (B:=w.heap.size) (g:=w.heap.size+1) (by omega) hbl2 hb.1 (by rw [HL.out];exact hn)
 rw [HL.out] at ho
 have hsz2:=hbel2.size
 simp at hsz2
 go_ret
 exact ⟨w2.heap.size,w.heap.size+1,rfl,heap_alloc_new w2 _,ho.alloc _,by omega,(((Below.refl w.heap.size w).alloc nl _).trans (hbel2.mono (by omega))).alloc (by omega) _⟩
theorem chunk_byte (n u s left:Nat) (hu:u<8) (hn:n<2 ^ left) (hs:s=min (8-u) left):(n*2 ^ u) % 256=(n % 2 ^ s)*2 ^ u:=by
 by_cases h:8-u≤left
 ·have:s=8-u:=by omega
  subst this
  have e:256=2 ^ (8-u)*2 ^ u:=by rw [←Nat.pow_add,show 8-u+u=8 from by omega]
  rw [e,Nat.mul_mod_mul_right]
 ·have:s=left:=by omega
  subst this
  rw [Nat.mod_eq_of_lt hn]
  refine Nat.mod_eq_of_lt ?_
  have h1:(n+1)*2 ^ u≤2 ^ s*2 ^ u:=Nat.mul_le_mul_right _ hn
  have h2:2 ^ (s+u)≤2 ^ 8:=Nat.pow_le_pow_right (by omega) (by omega)
  rw [Nat.add_mul,←Nat.pow_add] at h1
  have h3:0<2 ^ u:=Nat.pow_pos (by omega)
  omega
theorem put_chunk (old n u s left:Nat) (hu:u<8) (ho:old<2 ^ u) (hn:n<2 ^ left) (hs:s=min (8-u) left) (hn':n≤1073741824) :
  bits .or .u8 (old:Int) (wrap64 ((n:Int)*2 ^ u) % 256)=((old+n % 2 ^ s*2 ^ u:Nat):Int)∧old+n % 2 ^ s*2 ^ u<256:=by
 have hc:=chunk_byte n u s left hu hn hs
 have h2:2 ^ u≤2 ^ 7:=Nat.pow_le_pow_right (by omega) (by omega)
 have h3:n*2 ^ u≤1073741824*2 ^ u:=Nat.mul_le_mul_right _ hn'
 have h4:1073741824*2 ^ u≤1073741824*2 ^ 7:=Nat.mul_le_mul_left _ h2
 have e:((n:Int)*2 ^ u)=((n*2 ^ u:Nat):Int):=by simp
 have hlt:n % 2 ^ s*2 ^ u<256:=by rw [←hc];exact Nat.mod_lt _ (by omega)
 rw [e,IntWalk.wrap64_in _ (by omega),show (((n*2 ^ u:Nat):Int) % 256)=((n*2 ^ u % 256:Nat):Int) from by omega,hc]
 refine ⟨or_u8 old _ u ho (by simp) hlt (by omega),?_⟩
 have hd:n % 2 ^ s*2 ^ u+2 ^ u≤256:=by
  have:256=2 ^ (8-u)*2 ^ u:=by rw [←Nat.pow_add,show 8-u+u=8 from by omega]
  rw [this] at hlt ⊢
  have h5:n % 2 ^ s<2 ^ (8-u):=Nat.lt_of_mul_lt_mul_right hlt
  have h6:(n % 2 ^ s+1)*2 ^ u≤2 ^ (8-u)*2 ^ u:=Nat.mul_le_mul_right _ h5
  rw [Nat.add_mul,Nat.one_mul] at h6
  exact h6
 omega
theorem put_close3 {w W:World} {B g cap R q L s:Nat} {room:Int} {v:Value} {Z Z':List Int} {b:Int} (hR:W.heap[R]?=some (.cells #[.slice (some ⟨g,0,none⟩) L cap,.int .i64 (q:Nat),.int .i64 room] 73 (0,0)))
  (hZ:Z.length=L) (hown:Own W B g cap Z) (hnext:Z'=Z.set (q / 8) b) (hb:0≤b∧b≤255) (honly:Only (fun k=>k=R∨v.ownBlock=some k) w W)
  (hrow:v.ownBlock=some g∨w.heap.size≤g) :
  ((W.setCell ⟨g,q / 8,none⟩ (.int .u8 b)).setCell ⟨R,1,none⟩ (.int .i64 ((q:Int)+s))).heap[R]?=some (.cells #[.slice (some ⟨g,0,none⟩) L cap,.int .i64 ((q+s:Nat):Int),.int .i64 room] 73 (0,0)) ∧
  OwnV ((W.setCell ⟨g,q / 8,none⟩ (.int .u8 b)).setCell ⟨R,1,none⟩ (.int .i64 ((q:Int)+s))) B (.slice (some ⟨g,0,none⟩) L cap) Z' ∧
  Only (fun k=>k=R∨v.ownBlock=some k) w ((W.setCell ⟨g,q / 8,none⟩ (.int .u8 b)).setCell ⟨R,1,none⟩ (.int .i64 ((q:Int)+s))):=by
 have hne:=hown.ne hR (by decide)
 have h1:(W.setCell ⟨g,q / 8,none⟩ (.int .u8 b)).heap[R]?=some (.cells #[.slice (some ⟨g,0,none⟩) L cap,.int .i64 (q:Nat),.int .i64 room] 73 (0,0)):=by
  rw [Below.heap_setCell _ _ _ _ (by simpa using hne.symm)];exact hR
 have h2:=hown.store (q / 8) b hb
 have h3:=Own.setCell_other h2 (p:=⟨R,1,none⟩) (by simpa using hne.symm) (.int .i64 ((q:Int)+s))
 refine ⟨?_,?_,?_⟩
 ·rw [heap_setCell_same _ R 1 _ _ _ h1];simp
 ·rw [hnext]
  have hl:(Z.set (q / 8) b).length=L:=by rw [List.length_set];exact hZ
  have h4:=h3.v
  rw [hl] at h4
  exact h4
 ·refine Only.setCell (Only.setCell honly ?_ _) (.inl (.inl rfl)) _
  rcases hrow with h | h
  ·exact .inl (.inr h)
  ·exact .inr h
theorem put_grown3 {w wr w1:World} {o:Obj} {B R q g cap:Nat} {room:Int} {au:Option Addr} {cu:Nat} {v:Value} {Z:List Int} (hR:wr.heap[R]?=some (.cells #[.slice au (q / 8) cu,.int .i64 (q:Nat),.int .i64 room] 73 (0,0)))
  (hne:some R≠(Value.slice au (q / 8) cu).ownBlock) (hZ:∀ z ∈ Z,0≤z∧z≤255) (hl:Z.length=q / 8)
  (hg:(wr.alloc o).grownBy w1 (Value.slice au (q / 8) cu).ownBlock) (hown:w1.ownsRow B 5 1 (.slice (some ⟨g,0,none⟩) (q / 8+1) cap) (q / 8+1) (Z.map (Value.int .u8)++[.int .u8 0]))
  (hat:(Value.slice au (q / 8) cu).ownBlock=some g∨g=(wr.alloc o).heap.size) (honly:Only (fun k=>k=R∨v.ownBlock=some k) w wr)
  (hrow:(Value.slice au (q / 8) cu).ownBlock=v.ownBlock∨∃ k,(Value.slice au (q / 8) cu).ownBlock=some k∧w.heap.size≤k) :
  (w1.setCell ⟨R,0,none⟩ (.slice (some ⟨g,0,none⟩) (q / 8+1) cap)).heap[R]?=some (.cells #[.slice (some ⟨g,0,none⟩) (q / 8+1) cap,.int .i64 (q:Nat),.int .i64 room] 73 (0,0)) ∧
  Own (w1.setCell ⟨R,0,none⟩ (.slice (some ⟨g,0,none⟩) (q / 8+1) cap)) B g cap (Z++[0]) ∧
  Only (fun k=>k=R∨v.ownBlock=some k) w (w1.setCell ⟨R,0,none⟩ (.slice (some ⟨g,0,none⟩) (q / 8+1) cap))∧(v.ownBlock=some g∨w.heap.size≤g):=by
 have hR1:=app_keep hg hR hne
 have ho:Own w1 B g cap (Z++[0]):=by
  refine ⟨?_,?_⟩
  ·have e:(Z++[0]).length=q / 8+1:=by simp [hl]
   rw [e]
   simpa using hown
  ·intro z hz
   simp only [List.mem_append,List.mem_singleton] at hz
   rcases hz with hz | rfl
   ·exact hZ z hz
   ·omega
 have hgR:=ho.ne hR1 (by decide)
 have hsz:=honly.size
 refine ⟨?_,ho.setCell_other (by simpa using hgR.symm) _,?_,?_⟩
 ·rw [heap_setCell_same _ R 0 _ _ _ hR1];simp
 ·refine Only.setCell (Only.grown (honly.alloc o) hg ?_) (.inl (.inl rfl)) _
  intro k hk
  rcases hrow with h | ⟨k',h,h'⟩
  ·exact .inl (.inr (h.symm.trans hk))
  ·right
   rw [h] at hk
   simp at hk
   omega
 ·rcases hat with h | h
  ·rcases hrow with h' | ⟨k',h',h''⟩
   ·exact .inl (h'.symm.trans h)
   ·right
    rw [h'] at h
    simp at h
    omega
  ·right
   rw [h]
   simp
   omega
set_option maxRecDepth 100000 in
theorem wput_yes (R B:Nat) (v:Value) (n V:Nat) (x width room:Int) (w:World) (hR:w.heap[R]?=some (.cells #[v,.int .i64 n,.int .i64 room] 73 (0,0))) (hv:OwnV w B v (enc n V)) (hV:V<2 ^ n) (hB:B≤w.heap.size)
  (hx:0≤x) (h1:0≤width) (h2:width≤30) (hxw:x<2 ^ width.toNat) (h3:width≤room-n) (hn:n≤4104) (hroom:room≤5000) :
  Calls Tryz.prog 79 #[.pointer (some ⟨R,0,none⟩),.int .i64 x,.int .i64 width] w fun e w'=>e=.returned .nilIface ∧
   ∃ v',w'.heap[R]?=some (.cells #[v',.int .i64 ((n+width.toNat:Nat):Int),.int .i64 room] 73 (0,0))∧OwnV w' B v' (enc (n+width.toNat) (V+x.toNat*2 ^ n)) ∧
    Only (fun k=>k=R∨v.ownBlock=some k) w w'∧(v'.ownBlock=v.ownBlock∨∃ k,v'.ownBlock=some k∧w.heap.size≤k):=by
 obtain ⟨X,rfl⟩:=Int.eq_ofNat_of_zero_le hx
 obtain ⟨m,rfl⟩:=Int.eq_ofNat_of_zero_le h1
 simp only [Int.toNat_natCast] at *
 have hXm:X<2 ^ m:=by
  have e:((2:Int) ^ m)=((2 ^ m:Nat):Int):=by simp
  rw [e] at hxw
  omega
 have hXb:X≤1073741824:=by
  have:2 ^ m≤2 ^ 30:=Nat.pow_le_pow_right (by omega) (by omega)
  omega
 have HXM:Hid (X<2 ^ m):=hXm
 rw [←wrap_pow m (by omega)] at hxw
 have hRlt:R<w.heap.size:=(Array.getElem?_eq_some_iff.1 hR).1
 have HR:Hid (w.heap[R]?=some (.cells #[v,.int .i64 n,.int .i64 room] 73 (0,0))):=hR
 have HV:Hid (OwnV w B v (enc n V)):=hv
 have HVV:Hid (V<2 ^ n):=hV
 have c1:w.cell? ⟨R,1,none⟩=some (.int .i64 n):=cellR (j:=1) hR rfl
 have c2:w.cell? ⟨R,2,none⟩=some (.int .i64 room):=cellR (j:=2) hR rfl
 have hd:Hid (decide (0≤(m:Int)∧(m:Int)≤30)=true):=by simp [Hid];omega
 clear hR hv hV hXm
 obtain ⟨i0,hi,hz0,hz1,hz2⟩:=info_parts Tryz.infoU8
 go_enter Tryz.func79,Tryz.ntmps79
 go_wp2_with fail
 refine (widthOk_any _ _).mono ?_
 rintro e w1 ⟨rfl,hw1⟩
 rw [hd.out]
 rw [hw1]
 clear hw1
 go_wp2
 go_quiet (fail)
 go_wp2
 clear hxw c1 c2
 go_loopw [1,7] (fun y l wr=>∃ (d:Nat) (u:Value),d≤m∧l=.int .i64 ((m:Int)-d)∧y=.int .i64 ((X / 2 ^ d:Nat):Int)∧wr.heap[R]?=some (.cells #[u,.int .i64 ((n+d:Nat):Int),.int .i64 room] 73 (0,0))∧OwnV wr B u (enc (n+d) (V+(X % 2 ^ d)*2 ^ n)) ∧
   Only (fun k=>k=R∨v.ownBlock=some k) w wr∧(u.ownBlock=v.ownBlock∨∃ k,u.ownBlock=some k∧w.heap.size≤k)) (fun _ l _=>(intOf l).toNat)
 case atStart=>exact ⟨0,v,Nat.zero_le _,by simp,by simp,HR.out,by simp only [Nat.pow_zero,Nat.mod_one,Nat.zero_mul,Nat.add_zero];exact HV.out,(Only.refl _ _).drewN _,.inl rfl⟩
 case round=>
  obtain ⟨d,u,hdm,rfl,rfl,hRr,hur,honly,hrow⟩:=hrel
  by_cases hlt:d<m
  ·obtain ⟨s,hs⟩:∃ s,s=min (8-(n+d) % 8) (m-d):=⟨_,rfl⟩
   have hs1:0<s:=by omega
   have hVk:V+X % 2 ^ d*2 ^ n<2 ^ (n+d):=put_lt n V d _ HVV.out (Nat.mod_lt _ (Nat.pow_pos (by omega)))
   have hY:X / 2 ^ d<2 ^ (m-d):=by
    rw [Nat.div_lt_iff_lt_mul (Nat.pow_pos (by omega)),←Nat.pow_add,show m-d+d=m from by omega]
    exact HXM.out
   have hYb:X / 2 ^ d≤X:=Nat.div_le_self _ _
   have hnext:=enc_step (n+d) (V+X % 2 ^ d*2 ^ n) s (X / 2 ^ d % 2 ^ s) hVk (Nat.mod_lt _ (Nat.pow_pos (by omega))) hs1 (by omega)
   rw [put_part n V X d s] at hnext
   have htop:=enc_top (n+d) _ hVk
   have hlast:=enc_last (n+d) _ hVk
   have hlen:=enc_len (n+d) (V+X % 2 ^ d*2 ^ n)
   have hdiv:X / 2 ^ (d+s)=X / 2 ^ d / 2 ^ s:=by rw [Nat.div_div_eq_div_mul,←Nat.pow_add]
   have HDIV:Hid (X / 2 ^ (d+s)=X / 2 ^ d / 2 ^ s):=hdiv
   generalize hZp:enc (n+d+s) (V+X % 2 ^ (d+s)*2 ^ n)=Z' at *
   have HPART:Hid (enc (n+d+s) (V+X % 2 ^ (d+s)*2 ^ n)=Z'):=hZp
   clear hZp hdiv
   generalize (V+X % 2 ^ d*2 ^ n) / 256 ^ ((n+d) / 8)=old at *
   generalize enc (n+d) (V+X % 2 ^ d*2 ^ n)=Z at *
   generalize hYY:X / 2 ^ d=Y at *
   have HYY:Hid (X / 2 ^ d=Y):=hYY
   have hq4:n+d≤4134:=by omega
   generalize hq:n+d=q at *
   have HQ:Hid (n+d=q):=hq
   clear hq hYY hVk
   have hch:=put_chunk old Y (q % 8) s (m-d) (by omega) htop hY hs (by omega)
   have hrng:(0:Int)≤((old+Y % 2 ^ s*2 ^ (q % 8):Nat):Int)∧((old+Y % 2 ^ s*2 ^ (q % 8):Nat):Int)≤255:=by omega
   rw [←hch.1] at hrng hnext
   have HRNG:Hid (0≤bits .or .u8 (old:Int) (wrap64 ((Y:Int)*2 ^ (q % 8)) % 256)∧bits .or .u8 (old:Int) (wrap64 ((Y:Int)*2 ^ (q % 8)) % 256)≤255):=hrng
   clear hrng hch hY
   by_cases h8:q % 8=0
   ·rw [if_pos h8] at hnext
    have hlen':Z.length=q / 8:=by omega
    have HNEXT:Hid (Z'=(Z++[0]).set (q / 8) (bits .or .u8 (old:Int) (wrap64 ((Y:Int)*2 ^ (q % 8)) % 256))):=hnext
    have hold:old=0:=by rw [h8] at htop;simp at htop;exact htop
    have hBw:B≤wr.heap.size:=Nat.le_trans hB honly.size
    have h8':((q:Int) % 8 == 0)=true:=by simp;omega
    have hu:=hur.1
    rw [hlen'] at hu
    obtain ⟨au,cu,rfl⟩:∃ (x:Option Addr) (c:Nat),u=.slice x (q / 8) c:=by
     rcases hu.2 with ⟨rfl,h0⟩ | ⟨g',cap',cur',rfl,_⟩
     ·exact ⟨none,0,by rw [h0]⟩
     ·exact ⟨_,_,rfl⟩
    have c0:wr.cell? ⟨R,0,none⟩=some (.slice au (q / 8) cu):=cellR (j:=0) hRr rfl
    have c1:wr.cell? ⟨R,1,none⟩=some (.int .i64 (q:Nat)):=cellR (j:=1) hRr rfl
    have HRR:Hid (wr.heap[R]?=some (.cells #[.slice au (q / 8) cu,.int .i64 ((q:Nat):Int),.int .i64 room] 73 (0,0))):=hRr
    have HZR:Hid (∀ z ∈ Z,0≤z∧z≤255):=hur.2
    have HONLY:Hid (Only (fun k=>k=R∨v.ownBlock=some k) w wr):=honly
    have HROW:Hid ((Value.slice au (q / 8) cu).ownBlock=v.ownBlock∨∃ k,(Value.slice au (q / 8) cu).ownBlock=some k∧w.heap.size≤k):=hrow
    have HZL:Hid (Z.length=q / 8):=hlen'
    have huR:Hid (some R≠(Value.slice au (q / 8) cu).ownBlock):=by
     intro he
     rcases hu.2 with ⟨h',_⟩ | ⟨g',cap',cur',h',hg',hh,r⟩
     ·simp at h'
      rw [h'.1] at he
      simp [Value.ownBlock] at he
     ·simp at h'
      rw [h'.1] at he
      simp [Value.ownBlock] at he
      subst he
      rw [hRr] at hh
      simp at hh
    have HS:Hid (s=min (8-q % 8) (m-d)):=hs
    clear hnext hlast honly hrow hRr hlen hlen' hur hs
    go_wp2_with (at_builtin;(refine wpList_append_lies _ rfl (.tmp 53) (.tmp 54) 22 rfl B 5 i0 (.int .u8 0) 1 1 Tryz.underlying22 hi hz0 hz1 hz2 rfl (by decide) (.slice au (q / 8) cu) (q / 8) (Z.map (Value.int .u8)) rfl (hu.alloc _) ⟨wr.heap.size,0,none⟩ 1 1 [.int .u8 0] rfl rfl (by intro j y hj;match j,hj with | 0,hj=>(simp at hj;subst hj;simp [Addr.add])) (by intro y hy;simp at hy;subst hy;rfl) (by omega) (by unfold maxLen;omega) (by omega) (by simp;omega) _ rfl ?_);intro g cap w1 hown hgrow hat hlt1;have hR1:=app_keep hgrow HRR.out huR.out;have d0:=cellR (j:=0) hR1 rfl;have d1:=cellR (j:=1) hR1 rfl;have e0:=frozenR (j:=0) hR1)
    have G:=put_grown3 (v:=v) HRR.out huR.out HZR.out HZL.out hgrow hown hat HONLY.out HROW.out
    clear hown hgrow hat hR1 d0 d1 e0 c0 c1 hu hlt1
    generalize w1.setCell ⟨R,0,none⟩ (.slice (some ⟨g,0,none⟩) (q / 8+1) cap)=W at *
    obtain ⟨hRr,hown,honly,hrow'⟩:=G
    have hlen':(Z++[0]).length=q / 8+1:=by rw [List.length_append,HZL.out];rfl
    have CL:Hid _:=put_close3 (v:=v) (s:=s) hRr hlen' hown HNEXT.out HRNG.out honly hrow'
    have HROW2:Hid (v.ownBlock=some g∨w.heap.size≤g):=hrow'
    have hne:=hown.ne hRr (by decide)
    have c0:W.cell? ⟨R,0,none⟩=some (.slice (some ⟨g,0,none⟩) (q / 8+1) cap):=cellR (j:=0) hRr rfl
    have c1:W.cell? ⟨R,1,none⟩=some (.int .i64 (q:Nat)):=cellR (j:=1) hRr rfl
    have f1:=frozenR (j:=1) hRr
    have cg:W.cell? ⟨g,q / 8,none⟩=some (.int .u8 (old:Nat)):=by
     rw [hown.cell (q / 8) (by omega),hold]
     simp [←HZL.out]
    have fg:=hown.frozen (q / 8)
    clear hown honly hrow' hRr hlen' HNEXT HRNG h8 hold HRR HZR HONLY HROW HZL huR
    go_region
    go_wp2
    go_roundw
    case rel=>
     have hmin:(if (m:Int)-(d:Int)<8-(q:Int) % 8 then (m:Int)-(d:Int) else 8-(q:Int) % 8)=(s:Int):=by
      have:=HS.out
      split <;> omega
     rw [hmin]
     have C:=CL.out
     refine ⟨d+s,.slice (some ⟨g,0,none⟩) (q / 8+1) cap,by have:=HS.out;omega,congrArg (Value.int .i64) (by omega),congrArg (Value.int .i64) (by rw [HDIV.out];simp),?_,?_,?_,?_⟩
     ·rw [show n+(d+s)=q+s from by have:=HQ.out;omega];exact C.1
     ·rw [show n+(d+s)=q+s from by have:=HQ.out;omega,HPART.out];exact C.2.1
     ·exact C.2.2.drew
     ·rcases HROW2.out with h | h
      ·exact .inl h.symm
      ·exact .inr ⟨g,rfl,h⟩
    case measure=>
     have:=HS.out
     simp [intOf]
     split <;> omega
   ·rw [if_neg h8] at hnext
    have hlen':Z.length=q / 8+1:=by omega
    obtain ⟨g,cap,rfl,hown⟩:=hur.form (by omega)
    rw [hlen'] at hRr hrow
    have HNEXT:Hid (Z'=Z.set (q / 8) (bits .or .u8 (old:Int) (wrap64 ((Y:Int)*2 ^ (q % 8)) % 256))):=hnext
    have hrow':v.ownBlock=some g∨w.heap.size≤g:=by
     rcases hrow with h | ⟨kk,h,h'⟩
     ·exact .inl (h.symm.trans rfl)
     ·right
      simp [Value.ownBlock] at h
      omega
    have CL:Hid _:=put_close3 (v:=v) (s:=s) hRr hlen' hown HNEXT.out HRNG.out honly hrow'
    have HROW:Hid (v.ownBlock=some g∨w.heap.size≤g):=hrow'
    have hne:=hown.ne hRr (by decide)
    have c0:wr.cell? ⟨R,0,none⟩=some (.slice (some ⟨g,0,none⟩) (q / 8+1) cap):=cellR (j:=0) hRr rfl
    have c1:wr.cell? ⟨R,1,none⟩=some (.int .i64 (q:Nat)):=cellR (j:=1) hRr rfl
    have f1:=frozenR (j:=1) hRr
    have cg:=hown.cell (q / 8) (by omega)
    have fg:=hown.frozen (q / 8)
    rw [hlast h8] at cg
    have h8':((q:Int) % 8 == 0)=false:=by simp;omega
    have HS:Hid (s=min (8-q % 8) (m-d)):=hs
    clear hnext hlast hown honly hrow hrow' hRr hlen hlen' hur HNEXT HRNG h8 hs
    go_wp2
    go_region
    go_wp2
    go_roundw
    case rel=>
     have hmin:(if (m:Int)-(d:Int)<8-(q:Int) % 8 then (m:Int)-(d:Int) else 8-(q:Int) % 8)=(s:Int):=by
      have:=HS.out
      split <;> omega
     rw [hmin]
     have C:=CL.out
     refine ⟨d+s,.slice (some ⟨g,0,none⟩) (q / 8+1) cap,by have:=HS.out;omega,congrArg (Value.int .i64) (by omega),congrArg (Value.int .i64) (by rw [HDIV.out];simp),?_,?_,?_,?_⟩
     ·rw [show n+(d+s)=q+s from by have:=HQ.out;omega];exact C.1
     ·rw [show n+(d+s)=q+s from by have:=HQ.out;omega,HPART.out];exact C.2.1
     ·exact C.2.2.drew
     ·rcases HROW.out with h | h
      ·exact .inl h.symm
      ·exact .inr ⟨g,rfl,h⟩
    case measure=>
     have:=HS.out
     simp [intOf]
     split <;> omega
  ·have hdm':d=m:=by omega
   subst hdm'
   rw [Nat.mod_eq_of_lt HXM.out] at hur
   have HF:Hid _:=(⟨hRr,hur,honly,hrow⟩:_∧_∧_∧_)
   clear hRr hur honly hrow
   go_wp2
   go_ret
   have F:=HF.out
   exact ⟨rfl,u,F.1,F.2.1,F.2.2.1,F.2.2.2⟩
end Go.Proofs.YtfeokafkhnbdiaaGreatDoor
