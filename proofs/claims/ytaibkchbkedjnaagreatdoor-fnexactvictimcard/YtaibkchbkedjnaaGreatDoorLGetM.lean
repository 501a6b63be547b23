/- Lemmas on the way. -/
import Derived.Test.YtaibkchbkedjnaaGreatDoorPut1
import Derived.Test.YtaibkchbkedjnaaGreatDoorOpen1
import Derived.Laws.CopyOwn
import Derived.Test.YtaibkchbkedjnaaGreatDoorIParts
import Derived.LaidEql
import Derived.Stop.Asserts
import Derived.RowKitTokens
set_option maxRecDepth 20000
set_option maxHeartbeats 16000000
namespace Go.Proofs.YtaibkchbkedjnaaGreatDoor
open Go.RowKit
set_option linter.unusedVariables false
theorem wrap_pow (m:Nat) (h:m≤31):wrap64 (2 ^ m)=2 ^ m:=by
 have h1:2 ^ m≤2 ^ 31:=Nat.pow_le_pow_right (by omega) h
 have e:((2:Int) ^ m)=((2 ^ m:Nat):Int):=by simp
 rw [e]
 generalize 2 ^ m=y at *
 exact IntWalk.wrap64_in _ (by omega)
theorem OwnV.mine {w:World} {B:Nat} {v:Value} {zs:List Int} (h:OwnV w B v zs):∃ (a:Option Addr) (cp:Nat),v=.slice a zs.length cp∧Mine w B w.heap.size a cp zs:=by
 rcases h.1.2 with ⟨rfl,h0⟩ | ⟨g,cap,cur,rfl,hg,hh,r⟩
 ·exact ⟨none,0,by rw [h0],.inl ⟨rfl,List.eq_nil_of_length_eq_zero h0,rfl⟩⟩
 ·exact ⟨some ⟨g,0,none⟩,cap,rfl,Own.mine (cap:=cap) h⟩
def putOk (N n width:Int) (zs:List Int):Prop:=okB N zs=true∧0≤width∧width≤30∧0≤n∧n<2 ^ width.toNat∧width≤4096-N
theorem made_block {w:World} {B g n:Nat} (h:w.ownsRow B 5 1 (.slice (some ⟨g,0,none⟩) n n) n (madeCells (Value.int .u8 0).cells (n*1)).toList) :
  w.heap[g]?=some (.cells ((List.replicate n (0:Int)).map (Value.int .u8)).toArray 5 (0,0)):=by
 rcases h.2 with ⟨h',_⟩ | ⟨g',cap',cur,h',hg,hh,h1,h2,h3,h4⟩
 ·simp at h'
 ·simp only [Value.slice.injEq,Option.some.injEq,Addr.mk.injEq,and_true,true_and] at h'
  obtain ⟨rfl,rfl⟩:=h'
  rw [hh,←made_zero,←h4]
  rw [List.take_of_length_le (by simp [h3])]
theorem own_block {w:World} {B g:Nat} {zs:List Int} (hB:B≤g) (h:w.heap[g]?=some (.cells (zs.map (Value.int .u8)).toArray 5 (0,0))) (hr:∀ z ∈ zs,0≤z∧z≤255) (hl:zs.length≤1048576):Own w B g zs.length zs:=
 ⟨⟨by simp,.inr ⟨g,zs.length,_,rfl,hB,h,Nat.le_refl _,by unfold maxLen;omega,by simp,by rw [Nat.mul_one];exact List.take_of_length_le (by simp)⟩⟩,hr⟩
theorem newWriter_any (a:Option Addr) (cap:Nat) (zs:List Int) (N room:Int) (w:World) (hb:Byt w a zs) (hn:zs.length≤1048576) :
  Calls Tryz.prog 237 #[.agg #[.slice a zs.length cap,.int .i64 N],.int .i64 room] w fun e w'=>
   ∃ R g,e=.returned (.pointer (some ⟨R,0,none⟩))∧w'.heap[R]?=some (.cells #[.slice (some ⟨g,0,none⟩) zs.length zs.length,.int .i64 N,.int .i64 room] 309 (0,0)) ∧
    Own w' w.heap.size g zs.length zs∧w.heap.size≤R∧Below w.heap.size w w':=by
 obtain ⟨i0,hi,hz0,hz1,hz2⟩:=info_parts Tryz.infoU8
 have hsz:(Tryz.prog.info? 5).map (·.size)=some 1:=by rw [hi];simp [hz1]
 generalize hlen:zs.length=n at *
 have HL:Hid (zs.length=n):=hlen
 clear hlen
 go_enter Tryz.func237,Tryz.ntmps237
 have hone:=oneCells zs
 have hsrc:∀ W:World,(∀ b o,b<w.heap.size→W.cell? ⟨b,o,none⟩=w.cell? ⟨b,o,none⟩)→0<(zs.map (Value.int .u8)).length→∃ ad,a=some ad∧∀ j u,(zs.map (Value.int .u8))[j]?=some u→W.cell? (ad.add j)=some u:=by
  intro W hW hp
  obtain ⟨b,off,rfl,hbl,hc⟩:=hb.2 (by simpa using hp)
  exact ⟨_,rfl,news_of (fun i hi=>(hW b (off+i) hbl).trans (hc i hi))⟩
 have HSRC:Hid (∀ W:World,(∀ b o,b<w.heap.size→W.cell? ⟨b,o,none⟩=w.cell? ⟨b,o,none⟩)→0<(zs.map (Value.int .u8)).length→∃ ad,a=some ad∧∀ j u,(zs.map (Value.int .u8))[j]?=some u→W.cell? (ad.add j)=some u):=hsrc
 clear hsrc
 go_wp2_with (first
  | (at_make;refine wpList_make_full _ rfl _ _ 36 rfl w.heap.size 5 i0 (.int .u8 0) 1 Tryz.underlying36 hi hz0 hz1 .i64 .i64 _ _ n rfl rfl rfl rfl (by rw [hz2];omega) (by unfold maxLen;omega) (by simp) ?_;intro w1 hown hgrow;have hbel1:Below (w.heap.size+1) (w.alloc (Obj.cells #[.slice a n cap,.int .i64 N] 155)) w1:=(Below.refl _ _).grown hgrow (by simp) (by intro k hk;cases hk);have p0:w1.cell? ⟨w.heap.size,0,none⟩=some (.slice a n cap):=keep hbel1 (by omega) (by simp);have hblk:=made_block hown;simp only [World.size_alloc] at hblk;have HBLK:Hid (w1.heap[w.heap.size+1]?=some (.cells ((List.replicate n (0:Int)).map (Value.int .u8)).toArray 5 (0,0))):=hblk;clear hown hgrow hblk)
  | (have _t:=HBLK;refine wpList_copy_splice rfl (.tmp 10) (.tmp 12) 36 36 rfl 5 Tryz.underlying36 hsz (some ⟨w.heap.size+1,0,none⟩) a n n n cap rfl rfl (w.heap.size+1) 0 ((List.replicate n (0:Int)).map (Value.int .u8)) 5 HBLK.out (zs.map (Value.int .u8)) (by have:=HL.out;simp [this]) (fun hp=>⟨rfl,HSRC.out _ (fun b o hb=>(hbel1.cell (p:=⟨b,o,none⟩) (by simp;omega)).trans (by exact (Below.cell ((Below.refl w.heap.size w).alloc nl _) (p:=⟨b,o,none⟩) hb))) hp⟩) (by have:=HL.out;simp [this]) hone (w.heap.size+1) _ hbel1 nl ?_;intro w2 hblk2 hbel2;have p0':w2.cell? ⟨w.heap.size,0,none⟩=some (.slice a n cap):=keep hbel2 (by omega) (by simp);have p1':w2.cell? ⟨w.heap.size,1,none⟩=some (.int .i64 N):=keep hbel2 (by omega) (by simp)))
 have hbl2:=hblk2.out
 have hspl:splice ((List.replicate n (0:Int)).map (Value.int .u8)) 0 (zs.map (Value.int .u8))=zs.map (Value.int .u8):=by
  unfold splice
  rw [List.drop_of_length_le (by have:=HL.out;simp [this])]
  simp
 rw [hspl] at hbl2
 have ho:=own_block (B:=w.heap.size) (g:=w.heap.size+1) (by omega) hbl2 hb.1 (by rw [HL.out];exact hn)
 rw [HL.out] at ho
 have hsz2:=hbel2.size
 simp at hsz2
 go_ret
 exact ⟨w2.heap.size,w.heap.size+1,rfl,heap_alloc_new w2 _,ho.alloc _,by omega,(((Below.refl w.heap.size w).alloc nl _).trans (hbel2.mono (by omega))).alloc (by omega) _⟩
theorem chunk_byte (n u s left:Nat) (hu:u<8) (hn:n<2 ^ left) (hs:s=min (8-u) left):(n*2 ^ u) % 256=(n % 2 ^ s)*2 ^ u:=by
 by_cases h:8-u≤left
 ·have:s=8-u:=by omega
  subst this
  have e:256=2 ^ (8-u)*2 ^ u:=by rw [←Nat.pow_add,show 8-u+u=8 from by omega]
  rw [e,Nat.mul_mod_mul_right]
 ·have:s=left:=by omega
  subst this
  rw [Nat.mod_eq_of_lt hn]
  refine Nat.mod_eq_of_lt ?_
  have h1:(n+1)*2 ^ u≤2 ^ s*2 ^ u:=Nat.mul_le_mul_right _ hn
  have h2:2 ^ (s+u)≤2 ^ 8:=Nat.pow_le_pow_right (by omega) (by omega)
  rw [Nat.add_mul,←Nat.pow_add] at h1
  have h3:0<2 ^ u:=Nat.pow_pos (by omega)
  omega
theorem put_chunk (old n u s left:Nat) (hu:u<8) (ho:old<2 ^ u) (hn:n<2 ^ left) (hs:s=min (8-u) left) (hn':n≤1073741824) :
  bits .or .u8 (old:Int) (wrap64 ((n:Int)*2 ^ u) % 256)=((old+n % 2 ^ s*2 ^ u:Nat):Int)∧old+n % 2 ^ s*2 ^ u<256:=by
 have hc:=chunk_byte n u s left hu hn hs
 have h2:2 ^ u≤2 ^ 7:=Nat.pow_le_pow_right (by omega) (by omega)
 have h3:n*2 ^ u≤1073741824*2 ^ u:=Nat.mul_le_mul_right _ hn'
 have h4:1073741824*2 ^ u≤1073741824*2 ^ 7:=Nat.mul_le_mul_left _ h2
 have e:((n:Int)*2 ^ u)=((n*2 ^ u:Nat):Int):=by simp
 have hlt:n % 2 ^ s*2 ^ u<256:=by rw [←hc];exact Nat.mod_lt _ (by omega)
 rw [e,IntWalk.wrap64_in _ (by omega),show (((n*2 ^ u:Nat):Int) % 256)=((n*2 ^ u % 256:Nat):Int) from by omega,hc]
 refine ⟨or_u8 old _ u ho (by simp) hlt (by omega),?_⟩
 have hd:n % 2 ^ s*2 ^ u+2 ^ u≤256:=by
  have:256=2 ^ (8-u)*2 ^ u:=by rw [←Nat.pow_add,show 8-u+u=8 from by omega]
  rw [this] at hlt ⊢
  have h5:n % 2 ^ s<2 ^ (8-u):=Nat.lt_of_mul_lt_mul_right hlt
  have h6:(n % 2 ^ s+1)*2 ^ u≤2 ^ (8-u)*2 ^ u:=Nat.mul_le_mul_right _ h5
  rw [Nat.add_mul,Nat.one_mul] at h6
  exact h6
 omega
theorem put_close3 {w W:World} {B g cap R q L s:Nat} {room:Int} {v:Value} {Z Z':List Int} {b:Int} (hR:W.heap[R]?=some (.cells #[.slice (some ⟨g,0,none⟩) L cap,.int .i64 (q:Nat),.int .i64 room] 309 (0,0)))
  (hZ:Z.length=L) (hown:Own W B g cap Z) (hnext:Z'=Z.set (q / 8) b) (hb:0≤b∧b≤255) (honly:Only (fun k=>k=R∨v.ownBlock=some k) w W)
  (hrow:v.ownBlock=some g∨w.heap.size≤g) :
  ((W.setCell ⟨g,q / 8,none⟩ (.int .u8 b)).setCell ⟨R,1,none⟩ (.int .i64 ((q:Int)+s))).heap[R]?=some (.cells #[.slice (some ⟨g,0,none⟩) L cap,.int .i64 ((q+s:Nat):Int),.int .i64 room] 309 (0,0)) ∧
  OwnV ((W.setCell ⟨g,q / 8,none⟩ (.int .u8 b)).setCell ⟨R,1,none⟩ (.int .i64 ((q:Int)+s))) B (.slice (some ⟨g,0,none⟩) L cap) Z' ∧
  Only (fun k=>k=R∨v.ownBlock=some k) w ((W.setCell ⟨g,q / 8,none⟩ (.int .u8 b)).setCell ⟨R,1,none⟩ (.int .i64 ((q:Int)+s))):=by
 have hne:=hown.ne hR (by decide)
 have h1:(W.setCell ⟨g,q / 8,none⟩ (.int .u8 b)).heap[R]?=some (.cells #[.slice (some ⟨g,0,none⟩) L cap,.int .i64 (q:Nat),.int .i64 room] 309 (0,0)):=by
  rw [Below.heap_setCell _ _ _ _ (by simpa using hne.symm)];exact hR
 have h2:=hown.store (q / 8) b hb
 have h3:=Own.setCell_other h2 (p:=⟨R,1,none⟩) (by simpa using hne.symm) (.int .i64 ((q:Int)+s))
 refine ⟨?_,?_,?_⟩
 ·rw [heap_setCell_same _ R 1 _ _ _ h1];simp
 ·rw [hnext]
  have hl:(Z.set (q / 8) b).length=L:=by rw [List.length_set];exact hZ
  have h4:=h3.v
  rw [hl] at h4
  exact h4
 ·refine Only.setCell (Only.setCell honly ?_ _) (.inl (.inl rfl)) _
  rcases hrow with h | h
  ·exact .inl (.inr h)
  ·exact .inr h
theorem put_grown3 {w wr w1:World} {o:Obj} {B R q g cap:Nat} {room:Int} {au:Option Addr} {cu:Nat} {v:Value} {Z:List Int} (hR:wr.heap[R]?=some (.cells #[.slice au (q / 8) cu,.int .i64 (q:Nat),.int .i64 room] 309 (0,0)))
  (hne:some R≠(Value.slice au (q / 8) cu).ownBlock) (hZ:∀ z ∈ Z,0≤z∧z≤255) (hl:Z.length=q / 8)
  (hg:(wr.alloc o).grownBy w1 (Value.slice au (q / 8) cu).ownBlock) (hown:w1.ownsRow B 5 1 (.slice (some ⟨g,0,none⟩) (q / 8+1) cap) (q / 8+1) (Z.map (Value.int .u8)++[.int .u8 0]))
  (hat:(Value.slice au (q / 8) cu).ownBlock=some g∨g=(wr.alloc o).heap.size) (honly:Only (fun k=>k=R∨v.ownBlock=some k) w wr)
  (hrow:(Value.slice au (q / 8) cu).ownBlock=v.ownBlock∨∃ k,(Value.slice au (q / 8) cu).ownBlock=some k∧w.heap.size≤k) :
  (w1.setCell ⟨R,0,none⟩ (.slice (some ⟨g,0,none⟩) (q / 8+1) cap)).heap[R]?=some (.cells #[.slice (some ⟨g,0,none⟩) (q / 8+1) cap,.int .i64 (q:Nat),.int .i64 room] 309 (0,0)) ∧
  Own (w1.setCell ⟨R,0,none⟩ (.slice (some ⟨g,0,none⟩) (q / 8+1) cap)) B g cap (Z++[0]) ∧
  Only (fun k=>k=R∨v.ownBlock=some k) w (w1.setCell ⟨R,0,none⟩ (.slice (some ⟨g,0,none⟩) (q / 8+1) cap))∧(v.ownBlock=some g∨w.heap.size≤g):=by
 have hR1:=app_keep hg hR hne
 have ho:Own w1 B g cap (Z++[0]):=by
  refine ⟨?_,?_⟩
  ·have e:(Z++[0]).length=q / 8+1:=by simp [hl]
   rw [e]
   simpa using hown
  ·intro z hz
   simp only [List.mem_append,List.mem_singleton] at hz
   rcases hz with hz | rfl
   ·exact hZ z hz
   ·omega
 have hgR:=ho.ne hR1 (by decide)
 have hsz:=honly.size
 refine ⟨?_,ho.setCell_other (by simpa using hgR.symm) _,?_,?_⟩
 ·rw [heap_setCell_same _ R 0 _ _ _ hR1];simp
 ·refine Only.setCell (Only.grown (honly.alloc o) hg ?_) (.inl (.inl rfl)) _
  intro k hk
  rcases hrow with h | ⟨k',h,h'⟩
  ·exact .inl (.inr (h.symm.trans hk))
  ·right
   rw [h] at hk
   simp at hk
   omega
 ·rcases hat with h | h
  ·rcases hrow with h' | ⟨k',h',h''⟩
   ·exact .inl (h'.symm.trans h)
   ·right
    rw [h'] at h
    simp at h
    omega
  ·right
   rw [h]
   simp
   omega
set_option maxRecDepth 100000 in
theorem wput_yes (R B:Nat) (v:Value) (n V:Nat) (x width room:Int) (w:World) (hR:w.heap[R]?=some (.cells #[v,.int .i64 n,.int .i64 room] 309 (0,0))) (hv:OwnV w B v (enc n V)) (hV:V<2 ^ n) (hB:B≤w.heap.size)
  (hx:0≤x) (h1:0≤width) (h2:width≤30) (hxw:x<2 ^ width.toNat) (h3:width≤room-n) (hn:n≤4104) (hroom:room≤5000) :
  Calls Tryz.prog 243 #[.pointer (some ⟨R,0,none⟩),.int .i64 x,.int .i64 width] w fun e w'=>e=.returned .nilIface ∧
   ∃ v',w'.heap[R]?=some (.cells #[v',.int .i64 ((n+width.toNat:Nat):Int),.int .i64 room] 309 (0,0))∧OwnV w' B v' (enc (n+width.toNat) (V+x.toNat*2 ^ n)) ∧
    Only (fun k=>k=R∨v.ownBlock=some k) w w'∧(v'.ownBlock=v.ownBlock∨∃ k,v'.ownBlock=some k∧w.heap.size≤k):=by
 obtain ⟨X,rfl⟩:=Int.eq_ofNat_of_zero_le hx
 obtain ⟨m,rfl⟩:=Int.eq_ofNat_of_zero_le h1
 simp only [Int.toNat_natCast] at *
 have hXm:X<2 ^ m:=by
  have e:((2:Int) ^ m)=((2 ^ m:Nat):Int):=by simp
  rw [e] at hxw
  omega
 have hXb:X≤1073741824:=by
  have:2 ^ m≤2 ^ 30:=Nat.pow_le_pow_right (by omega) (by omega)
  omega
 have HXM:Hid (X<2 ^ m):=hXm
 rw [←wrap_pow m (by omega)] at hxw
 have hRlt:R<w.heap.size:=(Array.getElem?_eq_some_iff.1 hR).1
 have HR:Hid (w.heap[R]?=some (.cells #[v,.int .i64 n,.int .i64 room] 309 (0,0))):=hR
 have HV:Hid (OwnV w B v (enc n V)):=hv
 have HVV:Hid (V<2 ^ n):=hV
 have c1:w.cell? ⟨R,1,none⟩=some (.int .i64 n):=cellR (j:=1) hR rfl
 have c2:w.cell? ⟨R,2,none⟩=some (.int .i64 room):=cellR (j:=2) hR rfl
 have hd:Hid (decide (0≤(m:Int)∧(m:Int)≤30)=true):=by simp [Hid];omega
 clear hR hv hV hXm
 obtain ⟨i0,hi,hz0,hz1,hz2⟩:=info_parts Tryz.infoU8
 go_enter Tryz.func243,Tryz.ntmps243
 go_wp2_with fail
 refine (widthOk_any _ _).mono ?_
 rintro e w1 ⟨rfl,hw1⟩
 rw [hd.out]
 rw [hw1]
 clear hw1
 go_wp2
 go_quiet (fail)
 go_wp2
 clear hxw c1 c2
 go_loopw [1,7] (fun y l wr=>∃ (d:Nat) (u:Value),d≤m∧l=.int .i64 ((m:Int)-d)∧y=.int .i64 ((X / 2 ^ d:Nat):Int)∧wr.heap[R]?=some (.cells #[u,.int .i64 ((n+d:Nat):Int),.int .i64 room] 309 (0,0))∧OwnV wr B u (enc (n+d) (V+(X % 2 ^ d)*2 ^ n)) ∧
   Only (fun k=>k=R∨v.ownBlock=some k) w wr∧(u.ownBlock=v.ownBlock∨∃ k,u.ownBlock=some k∧w.heap.size≤k)) (fun _ l _=>(intOf l).toNat)
 case atStart=>exact ⟨0,v,Nat.zero_le _,by simp,by simp,HR.out,by simp only [Nat.pow_zero,Nat.mod_one,Nat.zero_mul,Nat.add_zero];exact HV.out,(Only.refl _ _).drewN _,.inl rfl⟩
 case round=>
  obtain ⟨d,u,hdm,rfl,rfl,hRr,hur,honly,hrow⟩:=hrel
  by_cases hlt:d<m
  ·obtain ⟨s,hs⟩:∃ s,s=min (8-(n+d) % 8) (m-d):=⟨_,rfl⟩
   have hs1:0<s:=by omega
   have hVk:V+X % 2 ^ d*2 ^ n<2 ^ (n+d):=put_lt n V d _ HVV.out (Nat.mod_lt _ (Nat.pow_pos (by omega)))
   have hY:X / 2 ^ d<2 ^ (m-d):=by
    rw [Nat.div_lt_iff_lt_mul (Nat.pow_pos (by omega)),←Nat.pow_add,show m-d+d=m from by omega]
    exact HXM.out
   have hYb:X / 2 ^ d≤X:=Nat.div_le_self _ _
   have hnext:=enc_step (n+d) (V+X % 2 ^ d*2 ^ n) s (X / 2 ^ d % 2 ^ s) hVk (Nat.mod_lt _ (Nat.pow_pos (by omega))) hs1 (by omega)
   rw [put_part n V X d s] at hnext
   have htop:=enc_top (n+d) _ hVk
   have hlast:=enc_last (n+d) _ hVk
   have hlen:=enc_len (n+d) (V+X % 2 ^ d*2 ^ n)
   have hdiv:X / 2 ^ (d+s)=X / 2 ^ d / 2 ^ s:=by rw [Nat.div_div_eq_div_mul,←Nat.pow_add]
   have HDIV:Hid (X / 2 ^ (d+s)=X / 2 ^ d / 2 ^ s):=hdiv
   generalize hZp:enc (n+d+s) (V+X % 2 ^ (d+s)*2 ^ n)=Z' at *
   have HPART:Hid (enc (n+d+s) (V+X % 2 ^ (d+s)*2 ^ n)=Z'):=hZp
   clear hZp hdiv
   generalize (V+X % 2 ^ d*2 ^ n) / 256 ^ ((n+d) / 8)=old at *
   generalize enc (n+d) (V+X % 2 ^ d*2 ^ n)=Z at *
   generalize hYY:X / 2 ^ d=Y at *
   have HYY:Hid (X / 2 ^ d=Y):=hYY
   have hq4:n+d≤4134:=by omega
   generalize hq:n+d=q at *
   have HQ:Hid (n+d=q):=hq
   clear hq hYY hVk
   have hch:=put_chunk old Y (q % 8) s (m-d) (by omega) htop hY hs (by omega)
   have hrng:(0:Int)≤((old+Y % 2 ^ s*2 ^ (q % 8):Nat):Int)∧((old+Y % 2 ^ s*2 ^ (q % 8):Nat):Int)≤255:=by omega
   rw [←hch.1] at hrng hnext
   have HRNG:Hid (0≤bits .or .u8 (old:Int) (wrap64 ((Y:Int)*2 ^ (q % 8)) % 256)∧bits .or .u8 (old:Int) (wrap64 ((Y:Int)*2 ^ (q % 8)) % 256)≤255):=hrng
   clear hrng hch hY
   by_cases h8:q % 8=0
   ·rw [if_pos h8] at hnext
    have hlen':Z.length=q / 8:=by omega
    have HNEXT:Hid (Z'=(Z++[0]).set (q / 8) (bits .or .u8 (old:Int) (wrap64 ((Y:Int)*2 ^ (q % 8)) % 256))):=hnext
    have hold:old=0:=by rw [h8] at htop;simp at htop;exact htop
    have hBw:B≤wr.heap.size:=Nat.le_trans hB honly.size
    have h8':((q:Int) % 8 == 0)=true:=by simp;omega
    have hu:=hur.1
    rw [hlen'] at hu
    obtain ⟨au,cu,rfl⟩:∃ (x:Option Addr) (c:Nat),u=.slice x (q / 8) c:=by
     rcases hu.2 with ⟨rfl,h0⟩ | ⟨g',cap',cur',rfl,_⟩
     ·exact ⟨none,0,by rw [h0]⟩
     ·exact ⟨_,_,rfl⟩
    have c0:wr.cell? ⟨R,0,none⟩=some (.slice au (q / 8) cu):=cellR (j:=0) hRr rfl
    have c1:wr.cell? ⟨R,1,none⟩=some (.int .i64 (q:Nat)):=cellR (j:=1) hRr rfl
    have HRR:Hid (wr.heap[R]?=some (.cells #[.slice au (q / 8) cu,.int .i64 ((q:Nat):Int),.int .i64 room] 309 (0,0))):=hRr
    have HZR:Hid (∀ z ∈ Z,0≤z∧z≤255):=hur.2
    have HONLY:Hid (Only (fun k=>k=R∨v.ownBlock=some k) w wr):=honly
    have HROW:Hid ((Value.slice au (q / 8) cu).ownBlock=v.ownBlock∨∃ k,(Value.slice au (q / 8) cu).ownBlock=some k∧w.heap.size≤k):=hrow
    have HZL:Hid (Z.length=q / 8):=hlen'
    have huR:Hid (some R≠(Value.slice au (q / 8) cu).ownBlock):=by
     intro he
     rcases hu.2 with ⟨h',_⟩ | ⟨g',cap',cur',h',hg',hh,r⟩
     ·simp at h'
      rw [h'.1] at he
      simp [Value.ownBlock] at he
     ·simp at h'
      rw [h'.1] at he
      simp [Value.ownBlock] at he
      subst he
      rw [hRr] at hh
      simp at hh
    have HS:Hid (s=min (8-q % 8) (m-d)):=hs
    clear hnext hlast honly hrow hRr hlen hlen' hur hs
    go_wp2_with (at_builtin;(refine wpList_append_lies _ rfl (.tmp 53) (.tmp 54) 36 rfl B 5 i0 (.int .u8 0) 1 1 Tryz.underlying36 hi hz0 hz1 hz2 rfl (by decide) (.slice au (q / 8) cu) (q / 8) (Z.map (Value.int .u8)) rfl (hu.alloc _) ⟨wr.heap.size,0,none⟩ 1 1 [.int .u8 0] rfl rfl (by intro j y hj;match j,hj with | 0,hj=>(simp at hj;subst hj;simp [Addr.add])) (by intro y hy;simp at hy;subst hy;rfl) (by omega) (by unfold maxLen;omega) (by omega) (by simp;omega) _ rfl ?_);intro g cap w1 hown hgrow hat hlt1;have hR1:=app_keep hgrow HRR.out huR.out;have d0:=cellR (j:=0) hR1 rfl;have d1:=cellR (j:=1) hR1 rfl;have e0:=frozenR (j:=0) hR1)
    have G:=put_grown3 (v:=v) HRR.out huR.out HZR.out HZL.out hgrow hown hat HONLY.out HROW.out
    clear hown hgrow hat hR1 d0 d1 e0 c0 c1 hu hlt1
    generalize w1.setCell ⟨R,0,none⟩ (.slice (some ⟨g,0,none⟩) (q / 8+1) cap)=W at *
    obtain ⟨hRr,hown,honly,hrow'⟩:=G
    have hlen':(Z++[0]).length=q / 8+1:=by rw [List.length_append,HZL.out];rfl
    have CL:Hid _:=put_close3 (v:=v) (s:=s) hRr hlen' hown HNEXT.out HRNG.out honly hrow'
    have HROW2:Hid (v.ownBlock=some g∨w.heap.size≤g):=hrow'
    have hne:=hown.ne hRr (by decide)
    have c0:W.cell? ⟨R,0,none⟩=some (.slice (some ⟨g,0,none⟩) (q / 8+1) cap):=cellR (j:=0) hRr rfl
    have c1:W.cell? ⟨R,1,none⟩=some (.int .i64 (q:Nat)):=cellR (j:=1) hRr rfl
    have f1:=frozenR (j:=1) hRr
    have cg:W.cell? ⟨g,q / 8,none⟩=some (.int .u8 (old:Nat)):=by
     rw [hown.cell (q / 8) (by omega),hold]
     simp [←HZL.out]
    have fg:=hown.frozen (q / 8)
    clear hown honly hrow' hRr hlen' HNEXT HRNG h8 hold HRR HZR HONLY HROW HZL huR
    go_region
    go_wp2
    go_roundw
    case rel=>
     have hmin:(if (m:Int)-(d:Int)<8-(q:Int) % 8 then (m:Int)-(d:Int) else 8-(q:Int) % 8)=(s:Int):=by
      have:=HS.out
      split <;> omega
     rw [hmin]
     have C:=CL.out
     refine ⟨d+s,.slice (some ⟨g,0,none⟩) (q / 8+1) cap,by have:=HS.out;omega,congrArg (Value.int .i64) (by omega),congrArg (Value.int .i64) (by rw [HDIV.out];simp),?_,?_,?_,?_⟩
     ·rw [show n+(d+s)=q+s from by have:=HQ.out;omega];exact C.1
     ·rw [show n+(d+s)=q+s from by have:=HQ.out;omega,HPART.out];exact C.2.1
     ·exact C.2.2.drew
     ·rcases HROW2.out with h | h
      ·exact .inl h.symm
      ·exact .inr ⟨g,rfl,h⟩
    case measure=>
     have:=HS.out
     simp [intOf]
     split <;> omega
   ·rw [if_neg h8] at hnext
    have hlen':Z.length=q / 8+1:=by omega
    obtain ⟨g,cap,rfl,hown⟩:=hur.form (by omega)
    rw [hlen'] at hRr hrow
    have HNEXT:Hid (Z'=Z.set (q / 8) (bits .or .u8 (old:Int) (wrap64 ((Y:Int)*2 ^ (q % 8)) % 256))):=hnext
    have hrow':v.ownBlock=some g∨w.heap.size≤g:=by
     rcases hrow with h | ⟨kk,h,h'⟩
     ·exact .inl (h.symm.trans rfl)
     ·right
      simp [Value.ownBlock] at h
      omega
    have CL:Hid _:=put_close3 (v:=v) (s:=s) hRr hlen' hown HNEXT.out HRNG.out honly hrow'
    have HROW:Hid (v.ownBlock=some g∨w.heap.size≤g):=hrow'
    have hne:=hown.ne hRr (by decide)
    have c0:wr.cell? ⟨R,0,none⟩=some (.slice (some ⟨g,0,none⟩) (q / 8+1) cap):=cellR (j:=0) hRr rfl
    have c1:wr.cell? ⟨R,1,none⟩=some (.int .i64 (q:Nat)):=cellR (j:=1) hRr rfl
    have f1:=frozenR (j:=1) hRr
    have cg:=hown.cell (q / 8) (by omega)
    have fg:=hown.frozen (q / 8)
    rw [hlast h8] at cg
    have h8':((q:Int) % 8 == 0)=false:=by simp;omega
    have HS:Hid (s=min (8-q % 8) (m-d)):=hs
    clear hnext hlast hown honly hrow hrow' hRr hlen hlen' hur HNEXT HRNG h8 hs
    go_wp2
    go_region
    go_wp2
    go_roundw
    case rel=>
     have hmin:(if (m:Int)-(d:Int)<8-(q:Int) % 8 then (m:Int)-(d:Int) else 8-(q:Int) % 8)=(s:Int):=by
      have:=HS.out
      split <;> omega
     rw [hmin]
     have C:=CL.out
     refine ⟨d+s,.slice (some ⟨g,0,none⟩) (q / 8+1) cap,by have:=HS.out;omega,congrArg (Value.int .i64) (by omega),congrArg (Value.int .i64) (by rw [HDIV.out];simp),?_,?_,?_,?_⟩
     ·rw [show n+(d+s)=q+s from by have:=HQ.out;omega];exact C.1
     ·rw [show n+(d+s)=q+s from by have:=HQ.out;omega,HPART.out];exact C.2.1
     ·exact C.2.2.drew
     ·rcases HROW.out with h | h
      ·exact .inl h.symm
      ·exact .inr ⟨g,rfl,h⟩
    case measure=>
     have:=HS.out
     simp [intOf]
     split <;> omega
  ·have hdm':d=m:=by omega
   subst hdm'
   rw [Nat.mod_eq_of_lt HXM.out] at hur
   have HF:Hid _:=(⟨hRr,hur,honly,hrow⟩:_∧_∧_∧_)
   clear hRr hur honly hrow
   go_wp2
   go_ret
   have F:=HF.out
   exact ⟨rfl,u,F.1,F.2.1,F.2.2.1,F.2.2.2⟩
end Go.Proofs.YtaibkchbkedjnaaGreatDoor
namespace Go.Proofs.YtaibkchbkedjnaaGreatDoor
open Go.RowKit Go.Extern.Stop Go.Stop Go.Extern
set_option linter.unusedVariables false
theorem isTypeOf (v:Value) (w:World):(Extern.ReflectliteType.typeOf #[.iface 326 v]).run Tryz.prog w=.ok (.iface 223 (.agg #[.pointer (some ⟨29,326,none⟩)])) w:=by kernel_rfl
noncomputable def cmpX:Array Value→Sem Value:=(find Tryz.f275).getD (fun _=>pure .nilIface)
theorem isComparable (w:World):(cmpX #[.agg #[.pointer (some ⟨29,326,none⟩)]]).run Tryz.prog w=.ok (.bool true) w:=by kernel_rfl
theorem isComp :(Tryz.prog.info? 326).map (·.comparable)=some true:=by kernel_rfl
theorem isSize :(Tryz.prog.info? 351).map (·.size)=some 1:=by kernel_rfl
theorem isMethod (v : Value) (w : World) : (Go.method 463 223 v "Comparable").run Tryz.prog w = .ok (275, v) w := by kernel_rfl
set_option maxRecDepth 100000 in
/-- errors.Is(x, x). -/
theorem is_same (a:Addr) (w:World) :
  Calls Tryz.prog 98 #[.iface 326 (.pointer (some a)),.iface 326 (.pointer (some a))] w fun e w'=>e=.returned (.bool true)∧w'=w:=by
 obtain ⟨i,hi,hcmp⟩:=Option.map_eq_some_iff.1 isComp
 obtain ⟨j,hj,hjs⟩:=Option.map_eq_some_iff.1 isSize
 have hT:=@run_callFunc_extern Tryz.prog 141 _ Extern.ReflectliteType.typeOf Tryz.func141 (by kernel_rfl) (by kernel_rfl) (by kernel_rfl) (by kernel_rfl)
 have hC:=@run_callFunc_extern Tryz.prog 275 _ cmpX Tryz.func275 (by kernel_rfl) (by kernel_rfl) (by kernel_rfl) (by kernel_rfl)
 have tT:=isTypeOf
 have cT:=isComparable
 have mR:=isMethod
 have heq:=run_eql_iface_ptr_same (P:=Tryz.prog) w a Tryz.underlying82 Tryz.underlying326 hi hcmp hj
 go_enter Tryz.func98,Tryz.ntmps98
 go_wp2
 refine wp_loop_rounds 1 ?_
 rw [rounds_succ]
 go_wp2
 go_ret
 exact ⟨rfl,rfl⟩
end Go.Proofs.YtaibkchbkedjnaaGreatDoor
namespace Go.Proofs.YtaibkchbkedjnaaGreatDoor
open Go.RowKit
set_option linter.unusedVariables false
/-- What put answers where no room is left: just the sentinel. -/
theorem wput_full (R:Nat) (v:Value) (n:Nat) (x width room:Int) (X:Value) (w:World) (hR:w.heap[R]?=some (.cells #[v,.int .i64 n,.int .i64 room] 309 (0,0))) (hn:n≤4104) (hr0:0≤room) (hroom:room≤5000)
  (g1:w.cell? ⟨28,0,none⟩=some X) (k1:0≤width) (k2:width≤30) (k3:0≤x) (k4':x<2 ^ width.toNat) (k5:room-n<width) :
  Calls Tryz.prog 243 #[.pointer (some ⟨R,0,none⟩),.int .i64 x,.int .i64 width] w fun e w'=>e=.returned X∧∃ m,w'=w.drewN m:=by
 have k4:x<wrap64 (2 ^ width.toNat):=by rw [wrap_pow _ (by omega)];exact k4'
 have c1:w.cell? ⟨R,1,none⟩=some (.int .i64 n):=cellR (j:=1) hR rfl
 have c2:w.cell? ⟨R,2,none⟩=some (.int .i64 room):=cellR (j:=2) hR rfl
 clear hR k4'
 have hd:Hid (decide (0≤width∧width≤30)=true):=by simp [Hid];omega
 go_enter Tryz.func243,Tryz.ntmps243
 go_wp2_with fail
 refine (widthOk_any width _).mono ?_
 rintro e w1 ⟨rfl,rfl⟩
 rw [hd.out]
 go_wp2
 go_quiet (fail)
 go_wp2
 go_ret
 exact ⟨rfl,_,rfl⟩
theorem OwnV.only {S:Nat→Prop} {w w':World} {B:Nat} {v:Value} {zs:List Int} (h:OwnV w B v zs) (ho:Only S w w') (hs:∀ k,v.ownBlock=some k→¬S k):OwnV w' B v zs:=by
 rcases h.1.2 with ⟨h1,h2⟩ | ⟨g,cap,cur,rfl,r⟩
 ·exact ⟨⟨h.1.1,.inl ⟨h1,h2⟩⟩,h.2⟩
 ·exact Own.only (g:=g) (cap:=cap) h ho (hs g rfl)
theorem OwnV.ne {w:World} {B k R:Nat} {v:Value} {zs:List Int} {cur:Array Value} {T:TypeId} (h:OwnV w B v zs) (hk:v.ownBlock=some k) (hR:w.heap[R]?=some (.cells cur T (0,0))) (hT:T≠5):k≠R:=by
 rcases h.1.2 with ⟨rfl,h2⟩ | ⟨g,cap,cur',rfl,hg,hh,r⟩
 ·simp [Value.ownBlock] at hk
 ·simp [Value.ownBlock] at hk
  subst hk
  exact Own.ne (g:=g) (cap:=cap) h hR hT
theorem Byt.belowB {w w':World} {a:Option Addr} {zs:List Int} {B:Nat} (h:Byt w a zs) (hb:Below B w w') (hB:0<zs.length→∀ x,a=some x→x.block<B):Byt w' a zs:=by
 refine ⟨h.1,fun hp=>?_⟩
 obtain ⟨g,off,rfl,hl,hc⟩:=h.2 hp
 have hg:=hB hp _ rfl
 exact ⟨g,off,rfl,Nat.lt_of_lt_of_le hl hb.size,fun i hi=>(hb.cell (p:=⟨g,off+i,none⟩) hg).trans (hc i hi)⟩
def atOf (w:World) (Q:Nat):Nat:=match w.cell? ⟨Q,2,none⟩ with | some (.int _ p)=>p.toNat | _=>0
structure Poured (w wr:World) (R B Q:Nat) (b:Option Addr) (L cb n V m U p0 j:Nat) (u:Value):Prop where
 hR:wr.heap[R]?=some (.cells #[u,.int .i64 ((n+j:Nat):Int),.int .i64 4096] 309 (0,0))
 hv:OwnV wr B u (enc (n+j) (V+(U % 2 ^ j)*2 ^ n))
 hQ:wr.heap[Q]?=some (.cells #[.slice b L cb,.int .i64 m,.int .i64 ((p0+j:Nat):Int)] 261 (0,0))
 bel:Below B w wr
theorem Poured.drewN {w wr:World} {R B Q:Nat} {b:Option Addr} {L cb n V m U p0 j:Nat} {u:Value} (h:Poured w wr R B Q b L cb n V m U p0 j u) (k:Nat):Poured w (wr.drewN k) R B Q b L cb n V m U p0 j u:=
 ⟨h.hR,h.hv,h.hQ,below_drewN h.bel k⟩
theorem Poured.ne {w wr:World} {R B Q:Nat} {b:Option Addr} {L cb n V m U p0 j:Nat} {u:Value} (h:Poured w wr R B Q b L cb n V m U p0 j u):Q≠R:=by
 rintro rfl
 have:=h.hR.symm.trans h.hQ
 simp at this
set_option maxRecDepth 100000 in
/-- errors.Is(nil, x). -/
theorem is_nil (T:TypeId) (x:Value) (w:World) :
  Calls Tryz.prog 98 #[.nilIface,.iface T x] w fun e w'=>e=.returned (.bool false)∧w'=w:=by
 have hl:=run_eql_iface_nil_left (P:=Tryz.prog) (w:=w) T x Tryz.underlying82
 go_enter Tryz.func98,Tryz.ntmps98
 go_wp2
 go_ret
 exact ⟨rfl,rfl⟩
theorem shift_part (U p0 j s:Nat):U / 2 ^ (p0+j) % 2 ^ s=U / 2 ^ p0 / 2 ^ j % 2 ^ s:=by
 rw [Nat.pow_add,Nat.div_div_eq_div_mul]
set_option maxRecDepth 100000 in
/-- The reader is at p0, its last bit ahead of m; its bytes may hold more. -/
theorem pour_any (R B Q:Nat) (v:Value) (b:Option Addr) (cb:Nat) (ys:List Int) (n V m M U0 p0:Nat) (T1:TypeId) (pe:Addr) (x1:Value) (w:World)
  (hR:w.heap[R]?=some (.cells #[v,.int .i64 n,.int .i64 4096] 309 (0,0))) (hv:OwnV w B v (enc n V)) (hV:V<2 ^ n) (hB:B≤w.heap.size)
  (hQ:w.heap[Q]?=some (.cells #[.slice b ys.length cb,.int .i64 m,.int .i64 p0] 261 (0,0))) (hb:Byt w b ys) (hy:ys=enc M U0) (hn:n≤4096) (hm:m≤M) (hM:M≤4096) (hpm0:p0≤m)
  (hBR:B≤R) (hBQ:B≤Q) (hG:18<B∧28<B) (hbB:0<ys.length→∀ x,b=some x→x.block<B)
  (g0:w.cell? ⟨18,0,none⟩=some (.iface 326 (.pointer (some pe)))) (g1:w.cell? ⟨28,0,none⟩=some (.iface T1 x1)) :
  Calls Tryz.prog 238 #[.pointer (some ⟨R,0,none⟩),.pointer (some ⟨Q,0,none⟩)] w fun e w'=>
   Below B w w'∧(n+(m-p0)≤4096→e=.returned .nilIface∧∃ v',w'.heap[R]?=some (.cells #[v',.int .i64 ((n+(m-p0):Nat):Int),.int .i64 4096] 309 (0,0))∧OwnV w' B v' (enc (n+(m-p0)) (V+(U0 / 2 ^ p0 % 2 ^ (m-p0))*2 ^ n))) ∧
    (4096<n+(m-p0)→e=.returned (.iface T1 x1)):=by
 obtain ⟨U,hUe⟩:∃ U,U=U0 / 2 ^ p0:=⟨_,rfl⟩
 have HU:Hid (U=U0 / 2 ^ p0):=hUe
 obtain ⟨d,rfl⟩:∃ d,m=p0+d:=⟨m-p0,by omega⟩
 rw [Nat.add_sub_cancel_left,←hUe]
 clear hUe
 have HR:Hid (Poured w w R B Q b ys.length cb n V (p0+d) U p0 0 v):=⟨hR,by simpa [Nat.mod_one] using hv,hQ,Below.refl _ _⟩
 have HY:Hid (ys=enc M U0):=hy
 have HVV:Hid (V<2 ^ n):=hV
 clear hR hv hQ hy hV
 go_enter Tryz.func238,Tryz.ntmps238
 go_wp2
 go_loopw [] (fun wr=>∃ (j:Nat) (u:Value),j≤d∧n+j≤4096∧Poured w wr R B Q b ys.length cb n V (p0+d) U p0 j u) (fun wr=>p0+d-atOf wr Q)
 case atStart=>exact ⟨0,v,Nat.zero_le _,by omega,HR.out⟩
 case round=>
  obtain ⟨j,u,hpm,hnp,hP⟩:=hrel
  have e0:=keep hP.bel hG.1 g0
  have c1:wr.cell? ⟨Q,1,none⟩=some (.int .i64 ((p0+d:Nat):Int)):=cellR (j:=1) hP.hQ rfl
  have c2:wr.cell? ⟨Q,2,none⟩=some (.int .i64 ((p0+j:Nat):Int)):=cellR (j:=2) hP.hQ rfl
  have c0:wr.cell? ⟨Q,0,none⟩=some (.slice b ys.length cb):=cellR (j:=0) hP.hQ rfl
  have hat:atOf wr Q=p0+j:=by simp [atOf,c2];omega
  have HE0:Hid (wr.cell? ⟨18,0,none⟩=some (.iface 326 (.pointer (some pe)))):=e0
  have HC:Hid _:=(⟨c0,c1,c2⟩:_∧_∧_)
  have HAT:Hid (atOf wr Q=p0+j):=hat
  clear e0 c0 c1 c2 hat
  by_cases hlt:j<d
  ·have HP:Hid (Poured w wr R B Q b ys.length cb n V (p0+d) U p0 j u):=hP
   have HF:Hid (wr.frozen? ⟨Q,2,none⟩=false):=frozenR hP.hQ
   clear hP
   go_wp2_with fail
   refine (some_yes Q b cb ys (p0+d) M U0 (p0+j) wr (by omega) (by omega) hm (hb.belowB HP.out.bel hbB) HY.out (by omega) HC.out.1 HC.out.2.1 HC.out.2.2 HF.out).mono ?_
   rintro e w1 ⟨rfl,k1,rfl⟩
   obtain ⟨s,hs⟩:∃ s,s=min (d-j) 30:=⟨_,rfl⟩
   rw [show min (p0+d-(p0+j)) 30=s from by omega,shift_part,←HU.out]
   have hX:U / 2 ^ j % 2 ^ s<2 ^ s:=Nat.mod_lt _ (Nat.pow_pos (by omega))
   have HPP:Hid (V+(U % 2 ^ j)*2 ^ n+(U / 2 ^ j % 2 ^ s)*2 ^ (n+j)=V+(U % 2 ^ (j+s))*2 ^ n):=put_part n V U j s
   have HVP:Hid (V+(U % 2 ^ j)*2 ^ n<2 ^ (n+j)):=put_lt n V j (U % 2 ^ j) HVV.out (Nat.mod_lt _ (Nat.pow_pos (by omega)))
   generalize U / 2 ^ j % 2 ^ s=X at *
   have HXI:Hid ((X:Int)<2 ^ ((s:Int)).toNat):=by
    have e:((2:Int) ^ s)=((2 ^ s:Nat):Int):=by simp
    rw [Int.toNat_natCast,e]
    show (X:Int)<_
    exact Int.ofNat_lt.2 hX
   have hP1:=HP.out.drewN k1
   have hne:=hP1.ne
   have hszw:=hP1.bel.size
   have hs1:s≤30:=by omega
   have hs2:j+s≤d:=by omega
   have hs3:0<s:=by omega
   clear hs hX
   rw [show p0+j+s=p0+(j+s) from by omega]
   have hO1:Only (fun k=>k=Q) (wr.drewN k1) ((wr.drewN k1).setCell ⟨Q,2,none⟩ (.int .i64 ((p0+(j+s):Nat):Int))):=Only.setCell (Only.refl (fun k=>k=Q) (wr.drewN k1)) (p:=⟨Q,2,none⟩) (.inl rfl) _
   have hR1:((wr.drewN k1).setCell ⟨Q,2,none⟩ (.int .i64 ((p0+(j+s):Nat):Int))).heap[R]?=some (.cells #[u,.int .i64 ((n+j:Nat):Int),.int .i64 4096] 309 (0,0)):=by
    rw [Below.heap_setCell _ _ _ _ (by simpa using hne.symm)];exact hP1.hR
   have hQ1:((wr.drewN k1).setCell ⟨Q,2,none⟩ (.int .i64 ((p0+(j+s):Nat):Int))).heap[Q]?=some (.cells #[.slice b ys.length cb,.int .i64 ((p0+d:Nat):Int),.int .i64 ((p0+(j+s):Nat):Int)] 261 (0,0)):=by
    rw [heap_setCell_same _ Q 2 _ _ _ hP1.hQ];simp
   have hv1:OwnV ((wr.drewN k1).setCell ⟨Q,2,none⟩ (.int .i64 ((p0+(j+s):Nat):Int))) B u (enc (n+j) (V+(U % 2 ^ j)*2 ^ n)):=OwnV.only hP1.hv hO1 (fun k hk=>OwnV.ne hP1.hv hk hP1.hQ (by decide))
   have hb1:Below B w ((wr.drewN k1).setCell ⟨Q,2,none⟩ (.int .i64 ((p0+(j+s):Nat):Int))):=hP1.bel.setCell (by simpa using hBQ) _
   have hz1:B≤((wr.drewN k1).setCell ⟨Q,2,none⟩ (.int .i64 ((p0+(j+s):Nat):Int))).heap.size:=Nat.le_trans hB hb1.size
   clear hP1 hO1 HP HF HC HE0
   generalize (wr.drewN k1).setCell ⟨Q,2,none⟩ (.int .i64 ((p0+(j+s):Nat):Int))=w1 at *
   have H1:Hid _:=(⟨hR1,hQ1,hv1,hb1⟩:_∧_∧_∧_)
   have e0:=keep H1.out.2.2.2 hG.1 g0
   clear hR1 hQ1 hv1 hb1
   go_wp2_with fail
   refine (is_nil _ _ _).mono ?_
   rintro e w1' ⟨rfl,rfl⟩
   clear e0
   by_cases hfit:n+j+s≤4096
   ·go_wp2_with fail
    refine (wput_yes R B u (n+j) (V+(U % 2 ^ j)*2 ^ n) (X:Int) (s:Int) 4096 _ H1.out.1 H1.out.2.2.1 HVP.out hz1 (by omega) (by omega) (by omega) HXI.out (by omega) (by omega) (by omega)).mono ?_
    rintro e w2 ⟨rfl,v',hR2,hv2,ho2,hrow2⟩
    simp only [Int.toNat_natCast] at hR2 hv2
    rw [HPP.out] at hv2
    have hQl:Q<w1'.heap.size:=(Array.getElem?_eq_some_iff.1 H1.out.2.1).1
    have hQ2:=(ho2.block Q hQl (by
     rintro (h | h)
     ·exact hne h
     ·exact OwnV.ne H1.out.2.2.1 h H1.out.2.1 (by decide) rfl)).trans H1.out.2.1
    have hb2:Below B w w2:=H1.out.2.2.2.trans (ho2.below hz1 (by
     rintro k (h | h)
     ·omega
     ·exact (H1.out.2.2.1.1.lt _ h).1))
    have HF:Hid (Poured w w2 R B Q b ys.length cb n V (p0+d) U p0 (j+s) v'):=⟨by rw [hR2,Nat.add_assoc],by rw [←Nat.add_assoc];exact hv2,hQ2,hb2⟩
    have hat2:Hid (atOf w2 Q=p0+(j+s)):=by unfold Hid;simp [atOf,cellR (j:=2) hQ2 rfl];omega
    clear hR2 hv2 hQ2 hb2 ho2 hrow2 H1
    go_wp2
    go_roundw
    case rel=>exact ⟨j+s,v',by omega,by omega,HF.out⟩
    case measure=>rw [HAT.out,hat2.out];omega
   ·have e1:=keep H1.out.2.2.2 hG.2 g1
    go_wp2_with fail
    refine (wput_full R u (n+j) (X:Int) (s:Int) 4096 (.iface T1 x1) _ H1.out.1 (by omega) (by omega) (by omega) e1 (by omega) (by omega) (by omega) HXI.out (by omega)).mono ?_
    rintro e w2 ⟨rfl,k2,rfl⟩
    have HB2:Hid (Below B w (w1'.drewN k2)):=below_drewN H1.out.2.2.2 k2
    clear H1 e1
    generalize w1'.drewN k2=w2 at *
    go_wp2
    go_ret
    exact ⟨HB2.out,fun h=>by omega,fun _=>rfl⟩
  ·have hpe:j=d:=by omega
   subst hpe
   have HP:Hid (Poured w wr R B Q b ys.length cb n V (p0+j) U p0 j u):=hP
   clear hP
   go_wp2_with fail
   refine (some_no Q (p0+j) (p0+j) (.iface 326 (.pointer (some pe))) wr (by omega) rfl HC.out.2.1 HC.out.2.2 HE0.out).mono ?_
   rintro e w1 ⟨rfl,k1,rfl⟩
   have HP1:Hid (Poured w (wr.drewN k1) R B Q b ys.length cb n V (p0+j) U p0 j u):=HP.out.drewN k1
   clear HP HC HE0
   generalize wr.drewN k1=wf at *
   have e0:=keep HP1.out.bel hG.1 g0
   go_wp2_with fail
   refine (is_same pe _).mono ?_
   rintro e wf' ⟨rfl,rfl⟩
   go_wp2
   go_ret
   exact ⟨HP1.out.bel,fun _=>⟨rfl,u,HP1.out.hR,HP1.out.hv⟩,fun h=>by omega⟩
def nou :List Int→Nat
 | []=>0
 | z :: t=>if z=0 then nou t+1 else 0
theorem nou_le (l:List Int):nou l≤l.length:=by
 induction l with
 | nil=>simp [nou]
 | cons z t ih=>simp only [nou,List.length_cons];split <;> omega
theorem nou_zero (l:List Int) (k:Nat) (h:k<nou l):l.getD k 0=0:=by
 induction l generalizing k with
 | nil=>simp [nou] at h
 | cons z t ih=>
  simp only [nou] at h
  split at h
  ·rename_i hz
   cases k with
   | zero=>simpa using hz
   | succ k=>simpa using ih k (by omega)
  ·omega
theorem nou_stop (l:List Int) (h:nou l<l.length):l.getD (nou l) 0≠0:=by
 induction l with
 | nil=>simp [nou] at h
 | cons z t ih=>
  by_cases hz:z=0
  ·have e:nou (z :: t)=nou t+1:=by simp [nou,hz]
   rw [e] at h ⊢
   simpa using ih (by simpa using h)
  ·have e:nou (z :: t)=0:=by simp [nou,hz]
   rw [e]
   simpa using hz
def run (zs:List Int) (i:Nat):Nat:=min (nou (zs.drop (i+1))) 7
def lp (zs:List Int):Nat→Nat→Nat→Nat→Nat × Nat
 | 0,_,n,V=>(n,V)
 | f+1,i,n,V=>if i<zs.length then (if zs.getD i 0=0 then lp zs f (i+1+run zs i) (n+7) (V+run zs i*2 ^ (n+4)) else lp zs f (i+1) (n+4) (V+(zs.getD i 0).toNat*2 ^ n)) else (n,V)
def lpF (zs:List Int):Nat × Nat:=lp zs zs.length 0 0 0
theorem lp_end (zs:List Int) (f i n V:Nat) (h:¬i<zs.length):lp zs f i n V=(n,V):=by
 cases f with
 | zero=>rfl
 | succ f=>simp [lp,h]
theorem lp_zero (zs:List Int) (f i n V:Nat) (h:i<zs.length) (hz:zs.getD i 0=0):lp zs (f+1) i n V=lp zs f (i+1+run zs i) (n+7) (V+run zs i*2 ^ (n+4)):=by
 simp only [lp];rw [if_pos h,if_pos hz]
theorem lp_pos (zs:List Int) (f i n V:Nat) (h:i<zs.length) (hz:¬zs.getD i 0=0):lp zs (f+1) i n V=lp zs f (i+1) (n+4) (V+(zs.getD i 0).toNat*2 ^ n):=by
 simp only [lp];rw [if_pos h,if_neg hz]
theorem lp_le (zs:List Int) (f i n V:Nat):(lp zs f i n V).1≤n+7*f:=by
 induction f generalizing i n V with
 | zero=>simp [lp]
 | succ f ih=>
  simp only [lp]
  split
  ·split
   ·have:=ih (i+1+run zs i) (n+7) (V+run zs i*2 ^ (n+4));omega
   ·have:=ih (i+1) (n+4) (V+(zs.getD i 0).toNat*2 ^ n);omega
  ·simp
theorem run_le (zs:List Int) (i:Nat) (h:i<zs.length):run zs i≤7∧i+1+run zs i≤zs.length:=by
 have:=nou_le (zs.drop (i+1))
 rw [List.length_drop] at this
 unfold run
 omega
theorem drop_getD (zs:List Int) (i j:Nat):(zs.drop i).getD j 0=zs.getD (i+j) 0:=by simp [List.getD_eq_getElem?_getD]
theorem run_in (zs:List Int) (i j:Nat) (hj:j<run zs i):j<7∧i+j+1<zs.length∧zs.getD (i+j+1) 0=0:=by
 have h1:j<nou (zs.drop (i+1)):=by unfold run at hj;omega
 have h2:=nou_le (zs.drop (i+1))
 rw [List.length_drop] at h2
 have h3:=nou_zero _ j h1
 rw [drop_getD] at h3
 refine ⟨by unfold run at hj;omega,by omega,?_⟩
 rw [←h3];congr 1;omega
theorem run_out (zs:List Int) (i:Nat) (hi:i<zs.length) (h7:run zs i<7) (hl:i+run zs i+1<zs.length):zs.getD (i+run zs i+1) 0≠0:=by
 have h1:run zs i=nou (zs.drop (i+1)):=by unfold run at *;omega
 have h2:=nou_stop (zs.drop (i+1)) (by rw [List.length_drop,←h1];omega)
 rw [←h1,drop_getD] at h2
 intro h
 apply h2
 rw [←h];congr 1;omega
def bt (V p k:Nat):Nat:=V / 2 ^ p % 2 ^ k
theorem bt_lt (V p k:Nat):bt V p k<2 ^ k:=Nat.mod_lt _ (Nat.two_pow_pos k)
theorem bt_split (V p a b:Nat):bt V p (a+b)=bt V p a+2 ^ a*bt V (p+a) b:=by
 unfold bt
 rw [Nat.pow_add,Nat.mod_mul,Nat.div_div_eq_div_mul,←Nat.pow_add]
theorem bt_zero (V p:Nat):bt V p 0=0:=by unfold bt;simp [Nat.mod_one]
theorem lp_shift (zs:List Int) (f i n V:Nat):lp zs f i n V=(n+(lp zs f i 0 0).1,V+(lp zs f i 0 0).2*2 ^ n):=by
 induction f generalizing i n V with
 | zero=>simp [lp]
 | succ f ih=>
  simp only [lp]
  by_cases h:i<zs.length
  ·rw [if_pos h,if_pos h]
   by_cases hz:zs.getD i 0=0
   ·rw [if_pos hz,if_pos hz,ih (i+1+run zs i) (n+7),ih (i+1+run zs i) (0+7)]
    generalize lp zs f (i+1+run zs i) 0 0=u
    generalize run zs i=r
    simp only [Prod.mk.injEq]
    refine ⟨by omega,?_⟩
    rw [Nat.pow_add,Nat.pow_add]
    generalize 2 ^ n=P
    grind
   ·rw [if_neg hz,if_neg hz,ih (i+1) (n+4),ih (i+1) (0+4)]
    generalize lp zs f (i+1) 0 0=u
    generalize (zs.getD i 0).toNat=r
    simp only [Prod.mk.injEq]
    refine ⟨by omega,?_⟩
    rw [Nat.pow_add]
    generalize 2 ^ n=P
    grind
  ·rw [if_neg h,if_neg h]
   simp
def gq (n V s:Nat):Nat→Nat→List Int→Option (List Int × Nat)
 | 0,p,out=>some (out,p)
 | f+1,p,out=>if out.length<s then (if p+4≤n then (if bt V p 4=0 then (if p+7≤n then gq n V s f (p+7) (out++[0]++List.replicate (bt V (p+4) 3) 0) else none) else gq n V s f (p+4) (out++[((bt V p 4:Nat):Int)])) else none) else some (out,p)
def gi (n V s:Nat):Nat→Nat→List Int→Bool→Option (List Int × Nat)
 | 0,p,out,e=>some (out,p)
 | f+1,p,out,e=>if out.length<s then (if p+4≤n then (if bt V p 4=0 then (if p+7≤n then (if e=true∨s<out.length+1+bt V (p+4) 3 then none else gi n V s f (p+7) (out++[0]++List.replicate (bt V (p+4) 3) 0) (decide (bt V (p+4) 3<7))) else none) else gi n V s f (p+4) (out++[((bt V p 4:Nat):Int)]) false) else none) else some (out,p)
theorem gq_end {n V s f q:Nat} {out:List Int} (h:¬out.length<s):gq n V s f q out=some (out,q):=by
 cases f with
 | zero=>rfl
 | succ f=>simp only [gq];rw [if_neg h]
theorem gq_4 {n V s f q:Nat} {out:List Int} (h:out.length<s) (h4:¬q+4≤n):gq n V s (f+1) q out=none:=by simp only [gq];rw [if_pos h,if_neg h4]
theorem gq_pos {n V s f q:Nat} {out:List Int} (h:out.length<s) (h4:q+4≤n) (hx:¬bt V q 4=0):gq n V s (f+1) q out=gq n V s f (q+4) (out++[((bt V q 4:Nat):Int)]):=by simp only [gq];rw [if_pos h,if_pos h4,if_neg hx]
theorem gq_7 {n V s f q:Nat} {out:List Int} (h:out.length<s) (h4:q+4≤n) (hx:bt V q 4=0) (h7:¬q+7≤n):gq n V s (f+1) q out=none:=by simp only [gq];rw [if_pos h,if_pos h4,if_pos hx,if_neg h7]
theorem gq_zero {n V s f q:Nat} {out:List Int} (h:out.length<s) (hx:bt V q 4=0) (h7:q+7≤n):gq n V s (f+1) q out=gq n V s f (q+7) (out++[0]++List.replicate (bt V (q+4) 3) 0):=by simp only [gq];rw [if_pos h,if_pos (by omega),if_pos hx,if_pos h7]
theorem gi_end {n V s f q:Nat} {out:List Int} {e:Bool} (h:¬out.length<s):gi n V s f q out e=some (out,q):=by
 cases f with
 | zero=>rfl
 | succ f=>simp only [gi];rw [if_neg h]
theorem gi_4 {n V s f q:Nat} {out:List Int} {e:Bool} (h:out.length<s) (h4:¬q+4≤n):gi n V s (f+1) q out e=none:=by simp only [gi];rw [if_pos h,if_neg h4]
theorem gi_pos {n V s f q:Nat} {out:List Int} {e:Bool} (h:out.length<s) (h4:q+4≤n) (hx:¬bt V q 4=0):gi n V s (f+1) q out e=gi n V s f (q+4) (out++[((bt V q 4:Nat):Int)]) false:=by simp only [gi];rw [if_pos h,if_pos h4,if_neg hx]
theorem gi_7 {n V s f q:Nat} {out:List Int} {e:Bool} (h:out.length<s) (h4:q+4≤n) (hx:bt V q 4=0) (h7:¬q+7≤n):gi n V s (f+1) q out e=none:=by simp only [gi];rw [if_pos h,if_pos h4,if_pos hx,if_neg h7]
theorem gi_bad {n V s f q:Nat} {out:List Int} {e:Bool} (h:out.length<s) (hx:bt V q 4=0) (h7:q+7≤n) (hb:e=true∨s<out.length+1+bt V (q+4) 3):gi n V s (f+1) q out e=none:=by simp only [gi];rw [if_pos h,if_pos (by omega),if_pos hx,if_pos h7,if_pos hb]
theorem gi_zero {n V s f q:Nat} {out:List Int} {e:Bool} (h:out.length<s) (hx:bt V q 4=0) (h7:q+7≤n) (hb:¬(e=true∨s<out.length+1+bt V (q+4) 3)):gi n V s (f+1) q out e=gi n V s f (q+7) (out++[0]++List.replicate (bt V (q+4) 3) 0) (decide (bt V (q+4) 3<7)):=by simp only [gi];rw [if_pos h,if_pos (by omega),if_pos hx,if_pos h7,if_neg hb]
def lenS :Value→Nat
 | .slice _ n _=>n
 | _=>0
theorem nou_rep (k:Nat) (t:List Int):nou (List.replicate k 0++t)=k+nou t:=by
 induction k with
 | zero=>simp
 | succ k ih=>rw [List.replicate_succ,List.cons_append];simp only [nou,if_true];rw [ih];omega
theorem run_app (out rest:List Int) (k:Nat):run (out++[0]++List.replicate k 0++rest) out.length=min (k+nou rest) 7:=by
 unfold run
 have e:(out++[0]++List.replicate k 0++rest).drop (out.length+1)=List.replicate k 0++rest:=by
  have h:out.length+1=(out++[(0:Int)]).length:=by simp
  rw [List.append_assoc,h,List.drop_left]
 rw [e,nou_rep]
theorem nou_head {t:List Int} (h:0<t.length→t.getD 0 0≠0):nou t=0:=by
 cases t with
 | nil=>rfl
 | cons z t=>simp only [nou];rw [if_neg (by simpa using h (by simp))]
theorem getD_app0 (out rest:List Int):(out++rest).getD out.length 0=rest.getD 0 0:=by
 rw [List.getD_eq_getElem?_getD,List.getElem?_append_right nl,Nat.sub_self,List.getD_eq_getElem?_getD]
theorem gi_yes (n V s:Nat) (f:Nat):∀ (p:Nat) (out:List Int) (e:Bool) (res:List Int) (q:Nat),s≤f+out.length→out.length≤s→gi n V s f p out e=some (res,q) →
  (∃ rest,res=out++rest)∧res.length=s∧p≤q∧(e=true→out.length<s→res.getD out.length 0≠0)∧(∀ f' N U,s≤f'+out.length→lp res f' out.length N U=(N+(q-p),U+bt V p (q-p)*2 ^ N))∧gq n V s f p out=some (res,q):=by
 induction f with
 | zero=>
  intro p out e res q hf ho h
  simp only [gi,Option.some.injEq,Prod.mk.injEq] at h
  obtain ⟨rfl,rfl⟩:=h
  refine ⟨⟨[],by simp⟩,by omega,Nat.le_refl _,fun _ h=>absurd h (by omega),fun f' N U _=>?_,rfl⟩
  rw [lp_end _ _ _ _ _ (by omega),Nat.sub_self,bt_zero]
  simp
 | succ f ih=>
  intro p out e res q hf ho h
  simp only [gi] at h
  by_cases h1:out.length<s
  ·rw [if_pos h1] at h
   by_cases h2:p+4≤n
   ·rw [if_pos h2] at h
    by_cases h3:bt V p 4=0
    ·rw [if_pos h3] at h
     by_cases h4:p+7≤n
     ·rw [if_pos h4] at h
      have hk:=bt_lt V (p+4) 3
      generalize hke:bt V (p+4) 3=k at *
      by_cases h5:e=true∨s<out.length+1+k
      ·rw [if_pos h5] at h
       cases h
      ·rw [if_neg h5] at h
       have hl:(out++[0]++List.replicate k 0).length=out.length+1+k:=by simp;omega
       obtain ⟨⟨rest,hr⟩,r1,r2,r3,r4,r5⟩:=ih (p+7) (out++[0]++List.replicate k 0) (decide (k<7)) res q (by omega) (by omega) h
       have hrun:run res out.length=k:=by
        rw [hr,run_app]
        by_cases h7:k<7
        ·rw [nou_head (t:=rest) (fun hp=>?_)]
         ·omega
         ·have h8:=r3 (by simpa using h7) (by rw [hr,List.length_append] at r1;omega)
          rw [hr,getD_app0] at h8
          exact h8
        ·omega
       have hz:res.getD out.length 0=0:=by
        rw [hr,List.append_assoc,List.append_assoc,getD_app0]
        rfl
       refine ⟨⟨[0]++List.replicate k 0++rest,by rw [hr];simp⟩,r1,by omega,fun he=>absurd (Or.inl he) h5,fun f' N U hf'=>?_,?_⟩
       ·obtain ⟨g,rfl⟩:∃ g,f'=g+1:=⟨f' - 1,by omega⟩
        rw [lp_zero _ _ _ _ _ (by omega) hz,hrun]
        rw [hl] at r4
        rw [r4 g (N+7) _ (by omega),show q-p=4+(3+(q-(p+7))) by omega,bt_split,h3,bt_split,hke,show p+4+3=p+7 from rfl]
        generalize bt V (p+7) (q-(p+7))=u
        simp only [Prod.mk.injEq]
        refine ⟨by omega,?_⟩
        rw [Nat.pow_add,Nat.pow_add]
        generalize 2 ^ N=P
        grind
       ·simp only [gq]
        rw [if_pos h1,if_pos h2,if_pos h3,if_pos h4,hke]
        exact r5
     ·rw [if_neg h4] at h
      cases h
    ·rw [if_neg h3] at h
     have hl:(out++[((bt V p 4:Nat):Int)]).length=out.length+1:=by simp
     obtain ⟨⟨rest,hr⟩,r1,r2,r3,r4,r5⟩:=ih (p+4) (out++[((bt V p 4:Nat):Int)]) false res q (by omega) (by omega) h
     have hz:res.getD out.length 0=((bt V p 4:Nat):Int):=by
      rw [hr,List.append_assoc,getD_app0]
      rfl
     refine ⟨⟨((bt V p 4:Nat):Int) :: rest,by rw [hr];simp⟩,r1,by omega,fun _ _=>by rw [hz];omega,fun f' N U hf'=>?_,?_⟩
     ·obtain ⟨g,rfl⟩:∃ g,f'=g+1:=⟨f' - 1,by omega⟩
      rw [lp_pos _ _ _ _ _ (by omega) (by rw [hz];omega),hz]
      rw [hl] at r4
      rw [r4 g (N+4) _ (by omega),show q-p=4+(q-(p+4)) by omega,bt_split,Int.toNat_natCast]
      generalize bt V (p+4) (q-(p+4))=u
      generalize bt V p 4=v
      simp only [Prod.mk.injEq]
      refine ⟨by omega,?_⟩
      rw [Nat.pow_add]
      generalize 2 ^ N=P
      grind
     ·simp only [gq]
      rw [if_pos h1,if_pos h2,if_neg h3]
      exact r5
   ·rw [if_neg h2] at h
    cases h
  ·rw [if_neg h1] at h
   simp only [Option.some.injEq,Prod.mk.injEq] at h
   obtain ⟨rfl,rfl⟩:=h
   refine ⟨⟨[],by simp⟩,by omega,Nat.le_refl _,fun _ h=>absurd h (by omega),fun f' N U _=>?_,?_⟩
   ·rw [lp_end _ _ _ _ _ (by omega),Nat.sub_self,bt_zero]
    simp
   ·simp only [gq]
    rw [if_neg h1]
theorem gq_ext (n V s:Nat) (f:Nat):∀ (p:Nat) (out res:List Int) (q:Nat),gq n V s f p out=some (res,q)→(∃ rest,res=out++rest)∧p≤q∧(p≤n→q≤n):=by
 induction f with
 | zero=>
  intro p out res q h
  simp only [gq,Option.some.injEq,Prod.mk.injEq] at h
  obtain ⟨rfl,rfl⟩:=h
  exact ⟨⟨[],by simp⟩,Nat.le_refl _,id⟩
 | succ f ih=>
  intro p out res q h
  simp only [gq] at h
  split at h
  ·split at h
   ·split at h
    ·split at h
     ·obtain ⟨⟨rest,hr⟩,h2,h3⟩:=ih _ _ _ _ h
      exact ⟨⟨[0]++List.replicate (bt V (p+4) 3) 0++rest,by rw [hr];simp⟩,by omega,fun _=>h3 (by omega)⟩
     ·cases h
    ·obtain ⟨⟨rest,hr⟩,h2,h3⟩:=ih _ _ _ _ h
     exact ⟨⟨((bt V p 4:Nat):Int) :: rest,by rw [hr];simp⟩,by omega,fun _=>h3 (by omega)⟩
   ·cases h
  ·simp only [Option.some.injEq,Prod.mk.injEq] at h
   obtain ⟨rfl,rfl⟩:=h
   exact ⟨⟨[],by simp⟩,Nat.le_refl _,id⟩
theorem gq_yes (n V s:Nat) (f:Nat):∀ (p:Nat) (out:List Int) (e:Bool) (res:List Int) (q f':Nat),s≤f+out.length→s≤f'+out.length→gq n V s f p out=some (res,q)→res.length=s→lp res f' out.length 0 0=(q-p,bt V p (q-p)) →
  (e=true→out.length<s→res.getD out.length 0≠0)→gi n V s f p out e=some (res,q):=by
 induction f with
 | zero=>
  intro p out e res q f' hf hf' h hl hlp he
  simpa [gq,gi] using h
 | succ f ih=>
  intro p out e res q f' hf hf' h hl hlp he
  simp only [gq] at h
  simp only [gi]
  by_cases h1:out.length<s
  ·rw [if_pos h1] at h ⊢
   obtain ⟨g,rfl⟩:∃ g,f'=g+1:=⟨f' - 1,by omega⟩
   by_cases h2:p+4≤n
   ·rw [if_pos h2] at h ⊢
    by_cases h3:bt V p 4=0
    ·rw [if_pos h3] at h ⊢
     by_cases h4:p+7≤n
     ·rw [if_pos h4] at h ⊢
      have hk:=bt_lt V (p+4) 3
      generalize hke:bt V (p+4) 3=k at *
      have hl2:(out++[0]++List.replicate k 0).length=out.length+1+k:=by simp;omega
      obtain ⟨⟨rest,hr⟩,hq,-⟩:=gq_ext n V s f _ _ _ _ h
      have hz:res.getD out.length 0=0:=by
       rw [hr,List.append_assoc,List.append_assoc,getD_app0]
       rfl
      rw [lp_zero _ _ _ _ _ (by omega) hz,lp_shift,show q-p=4+(3+(q-(p+7))) by omega,bt_split,h3,bt_split,hke,show p+4+3=p+7 from rfl] at hlp
      have hrl:=run_le res out.length (by omega)
      have hk2:run res out.length=k∧lp res g (out.length+1+run res out.length) 0 0=(q-(p+7),bt V (p+7) (q-(p+7))):=by
       generalize run res out.length=r at *
       generalize bt V (p+7) (q-(p+7))=u at *
       generalize lp res g (out.length+1+r) 0 0=x at *
       simp only [Prod.mk.injEq] at hlp
       obtain ⟨e1,e2⟩:=hlp
       obtain ⟨x1,x2⟩:=x
       simp only at e1 e2
       exact ⟨by omega,by simp only [Prod.mk.injEq];omega⟩
      obtain ⟨hrk,hlp2⟩:=hk2
      rw [hrk] at hlp2 hrl
      rw [if_neg (by
       rintro (h9 | h9)
       ·exact he h9 h1 hz
       ·omega)]
      refine ih (p+7) _ _ res q g (by omega) (by omega) h hl (by rw [hl2];exact hlp2) ?_
      intro h7 h8
      rw [hl2] at h8 ⊢
      have h9:=run_out res out.length (by omega) (by rw [hrk];simpa using h7) (by rw [hrk];omega)
      rw [hrk,show out.length+k+1=out.length+1+k by omega] at h9
      exact h9
     ·rw [if_neg h4] at h
      cases h
    ·rw [if_neg h3] at h ⊢
     have hl2:(out++[((bt V p 4:Nat):Int)]).length=out.length+1:=by simp
     obtain ⟨⟨rest,hr⟩,hq,-⟩:=gq_ext n V s f _ _ _ _ h
     have hz:res.getD out.length 0=((bt V p 4:Nat):Int):=by
      rw [hr,List.append_assoc,getD_app0]
      rfl
     have hv:=bt_lt V p 4
     rw [lp_pos _ _ _ _ _ (by omega) (by rw [hz];omega),hz,lp_shift,show q-p=4+(q-(p+4)) by omega,bt_split,Int.toNat_natCast] at hlp
     have hlp2:lp res g (out.length+1) 0 0=(q-(p+4),bt V (p+4) (q-(p+4))):=by
      generalize bt V (p+4) (q-(p+4))=u at *
      generalize bt V p 4=v at *
      generalize lp res g (out.length+1) 0 0=x at *
      simp only [Prod.mk.injEq] at hlp
      obtain ⟨e1,e2⟩:=hlp
      obtain ⟨x1,x2⟩:=x
      simp only at e1 e2
      simp only [Prod.mk.injEq]
      omega
     exact ih (p+4) _ false res q g (by omega) (by omega) h hl (by rw [hl2];exact hlp2) (by simp)
   ·rw [if_neg h2] at h
    cases h
  ·rw [if_neg h1] at h ⊢
   exact h
theorem gi_iff (n V s p:Nat) (res:List Int) (q:Nat):gi n V s s p [] false=some (res,q)↔gq n V s s p []=some (res,q)∧res.length=s∧lpF res=(q-p,bt V p (q-p)):=by
 constructor
 ·intro h
  obtain ⟨-,r1,r2,-,r4,r5⟩:=gi_yes n V s s p [] false res q (by simp) (by simp) h
  refine ⟨r5,r1,?_⟩
  have:=r4 s 0 0 (by simp)
  unfold lpF
  rw [r1]
  simpa using this
 ·rintro ⟨h1,h2,h3⟩
  refine gq_yes n V s s p [] false res q s (by simp) (by simp) h1 h2 ?_ (by simp)
  unfold lpF at h3
  rw [h2] at h3
  exact h3
end Go.Proofs.YtaibkchbkedjnaaGreatDoor
