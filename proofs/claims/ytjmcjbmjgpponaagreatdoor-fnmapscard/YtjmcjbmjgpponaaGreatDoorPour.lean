import Derived.Test.YtjmcjbmjgpponaaGreatDoorNPut
set_option maxRecDepth 20000
set_option maxHeartbeats 16000000
namespace Go.Proofs.YtjmcjbmjgpponaaGreatDoor
open Go.RowKit
set_option linter.unusedVariables false
theorem zb8 :∀ (zs cs:List Int) (i:Nat),(∀ c ∈ cs,0<=c)->(∀ z ∈ zs,0<=z)->i<cs.length->(0<cs.getD i 0\/(i:Int) ∈ zs)->0<(zs.foldl zz cs).getD i 0
 | [],cs,i,_,_,_,h=>by
  rcases h with h | h
  ·exact h
  ·simp at h
 | z :: zs,cs,i,hc,hz,hi,h=>by
  rw [List.foldl_cons];have h0:∀ k,0<=cs.getD k 0:=fun k=>by
   by_cases hk:k<cs.length
   ·exact hc _ (zp hk)
   ·rw [List.getD_eq_getElem?_getD,List.getElem?_eq_none (by omega)];simp
  have hcb:∀ c ∈ zz cs z,0<=c:=fun c hm=>by
   unfold zz at hm;rcases List.mem_or_eq_of_mem_set hm with hm | rfl
   ·exact hc c hm
   ·have:=h0 z.toNat;omega
  refine zb8 zs (zz cs z) i hcb (fun y hy=>hz y (by simp [hy])) (by rw [z4y];exact hi) ?_
  have hget:(zz cs z).getD i 0=if z.toNat=i then cs.getD z.toNat 0+1 else cs.getD i 0:=by
   unfold zz
   simp only [List.getD_eq_getElem?_getD,List.getElem?_set]
   by_cases e:z.toNat=i
   ·subst e;simp [hi]
   ·simp [e]
  rw [hget];have hzn:=hz z (by simp)
  rcases h with h | h
  ·left
   split
   ·have:=h0 z.toNat;omega
   ·exact h
  ·rcases List.mem_cons.1 h with h | h
   ·left
    rw [if_pos (by omega)]
    have:=h0 z.toNat
    omega
   ·exact .inr h
theorem z8i {zs:List Int} {n:Nat} (h:z0e zs n=true) (k:Nat) (hk:k<zs.length):0<(zx zs n).getD (zs.getD k 0).toNat 0:=by
 have h1:=z18 h k hk;unfold zx;refine zb8 zs (List.replicate n 0) _ (by intro c hc;simp at hc;omega) (fun z hz=>?_) (by rw [List.length_replicate];omega) (.inr ?_)
 ·obtain ⟨j,hj,rfl⟩:=List.getElem_of_mem hz
  have:=z18 h j hj;rw [List.getD_eq_getElem?_getD,List.getElem?_eq_getElem hj] at this;exact this.1
 ·rw [Int.toNat_of_nonneg h1.1]
  exact zp hk
theorem z80 {zs:List Int} {n:Nat} (h:z0e zs n=true):z1y (zx zs n)=true:=by
 simp only [z0e,decide_eq_true_eq] at h
 simp only [z1y,decide_eq_true_eq]
 rw [z0r];refine ⟨by omega,by omega,fun z hz=>?_⟩
 have:=zd2 zs n z hz
 omega
theorem zlh {cs:List Int} {i:Nat} (hi:i<cs.length) (h:0<cs.getD i 0):1<=zf one cs:=by
 induction cs generalizing i with
 | nil=>simp at hi
 | cons c cs ih=>
  have e:zf one (c :: cs)=one c+zf one cs:=by simp [zf]
  have h1:=(z0t one 1 z27 cs).1;rw [e]
  cases i with
  | zero=>
   have:one c=1:=by unfold one;rw [if_pos (by simpa using h)]
   omega
  | succ i=>
   have:=ih (i:=i) (by simpa using hi) (by simpa using h)
   have:=(z27 c).1
   omega
theorem zcs {zs:List Int} {n:Nat} (h:z0e zs n=true) (h1:1<=zs.length):1<=zf one (zx zs n)/\zf one (zx zs n)<=n:=by
 refine ⟨zlh (i:=(zs.getD 0 0).toNat) ?_ (z8i h 0 (by omega)),?_⟩
 ·have:=z18 h 0 (by omega)
  rw [z0r];omega
 ·have:=(z0t one 1 z27 (zx zs n)).2
  rw [z0r] at this
  omega
theorem zat {zs:List Int} (h:z0e zs 40=true) (h1:1<=zs.length):zfs (zx zs 40) ((12:Nat):Int):=by
 obtain ⟨a,b⟩:=zcs (n:=40) h h1;have e:=zb1 (zx zs 40) (zx zs 40).length nl;rw [List.take_length,<-z98] at e;refine ⟨z80 (n:=40) h,by decide,by decide,by omega,?_⟩
 rw [Int.toNat_natCast]
 omega
def tL (zs:List Int):List Int:=z0w (zx zs 40) 12
theorem z2u (zs:List Int):(tL zs).length=40:=by unfold tL;rw [z63,z0r]
theorem zn7 {zs:List Int} (h:z0e zs 40=true) (h1:1<=zs.length):zv (tL zs)=true/\znd (tL zs) zs:=by
 obtain ⟨c1,c2,c3,c4,c5⟩:=zat h h1;rw [Int.toNat_natCast] at c5;obtain ⟨lm,hF,-⟩:=zhp c1 (L:=12) (by omega) c4 c5
 refine ⟨hF.okB c1 (by omega) c4,fun k hk=>?_⟩
 have h2:=z18 h k hk;have h3:=z8i (n:=40) h k hk;obtain ⟨_,_,_,e,e1,_⟩:=(hF.rng (zs.getD k 0).toNat (by rw [z0r];omega)).1 h3
 show (z0w (zx zs 40) 12).getD _ 0≠0
 rw [e]
 omega
def tS (zs:List Int):List Int:=zy (zx zs 40) (rest (zx zs 40))
theorem zdi {zs:List Int} (h:z0e zs 40=true) (h1:1<=zs.length):zch (zx zs 40):=by
 obtain ⟨a,b⟩:=zcs (n:=40) h h1;exact ⟨a,by omega⟩
theorem zcf {zs:List Int} (h:z0e zs 40=true) (h1:1<=zs.length):zk (tS zs)=true/\(tS zs).length=40/\shd (tS zs) zs:=by
 have hr:=zdi h h1;have hc:=z80 (n:=40) h;have hf:=z4v (z52 hr.1) (rest (zx zs 40));refine ⟨zf1 hc hr,by have:=hf.1;rw [z0r] at this;exact this,fun k hk=>?_⟩
 have h2:=z18 h k hk;have:=(hf.2 (zs.getD k 0).toNat (by rw [z0r];omega)).1 (z8i (n:=40) h k hk)
 show (zy _ _).getD _ 0≠0
 omega
def tT (zs:List Int):List Int:=tb (pl (fl 0 (tS zs)) (plc 64)) (tS zs) 64
theorem zn4 {zs:List Int} (h:z0e zs 40=true) (h1:1<=zs.length):Tab (tT zs) (tS zs):=zkg (zcf h h1).1
def byL (zs:List Int) (m U n0 V0:Nat):Nat × Nat:=
 ((lpG (tL zs) n0 V0).1+hN (tL zs) zs zs.length+m,(lpG (tL zs) n0 V0).2+hV (tL zs) (zr4 (tL zs)) zs zs.length*2 ^ (lpG (tL zs) n0 V0).1+U*2 ^ ((lpG (tL zs) n0 V0).1+hN (tL zs) zs zs.length))
def byT (zs:List Int) (m U n0 V0:Nat):Nat × Nat:=
 (nbG (tS zs) n0 40+9+m+fN (tT zs) zs,vbG (tS zs) n0 V0 40+m*2 ^ nbG (tS zs) n0 40+U*2 ^ (nbG (tS zs) n0 40+9)+fV (tT zs) zs*2 ^ (nbG (tS zs) n0 40+9+m))
theorem zj7 {zs:List Int} (h:z0e zs 40=true) (h1:1<=zs.length) (n0 V0:Nat):(lpG (tL zs) n0 V0).1<=n0+280/\hN (tL zs) zs zs.length<=12*zs.length:=by
 have a:=znb (tL zs) (tL zs).length 0 n0 V0;rw [z2u] at a;have e:=(z6h (zn7 h h1).1).2.2;refine ⟨?_,zn3 e _⟩
 show (lp (tL zs) (tL zs).length 0 n0 V0).1<=_
 rw [z2u]
 omega
def Kp (R:Nat) (w w':World):Prop:=∀ g cur T,w.heap[g]?=some (.cells cur T (0,0))->T≠5->g≠R->w'.heap[g]?=some (.cells cur T (0,0))
theorem Kp.refl (R:Nat) (w:World):Kp R w w:=fun _ _ _ h _ _=>h
theorem Kp.trans {R:Nat} {a b c:World} (h:Kp R a b) (k:Kp R b c):Kp R a c:=fun g cur T h1 h2 h3=>k g cur T (h g cur T h1 h2 h3) h2 h3
theorem Kp.below {R:Nat} {w w':World} (h:Below w.heap.size w w'):Kp R w w':=fun g _ _ h1 _ _=>(h.block g (Array.getElem?_eq_some_iff.1 h1).1).trans h1
def RowT (w:World) (g:Nat) (zs:List Int):Prop:=∃ cur,w.heap[g]?=some (.cells cur 3 (0,0))/\∀ k,k<zs.length->cur[k]?=some (.int .i64 (zs.getD k 0))
theorem RowT.kp {R:Nat} {w w':World} {g:Nat} {zs:List Int} (h:RowT w g zs) (hk:Kp R w w') (hg:g≠R):RowT w' g zs:=by
 obtain ⟨cur,h1,h2⟩:=h;exact ⟨cur,hk g cur _ h1 (by decide) hg,h2⟩
theorem RowT.lt {w:World} {g:Nat} {zs:List Int} (h:RowT w g zs):g<w.heap.size:=by
 obtain ⟨cur,h1,h2⟩:=h;exact (Array.getElem?_eq_some_iff.1 h1).1
theorem RowT.cell {w:World} {g:Nat} {zs:List Int} (h:RowT w g zs) (k:Nat) (hk:k<zs.length):w.cell? ⟨g,k,none⟩=some (.int .i64 (zs.getD k 0)):=by
 obtain ⟨cur,h1,h2⟩:=h;have:=h2 k hk;unfold World.cell?
 simp only [h1]
 simpa using this
theorem RowT.ins {w:World} {g:Nat} {zs:List Int} (h:RowT w g zs) (hr:∀ z ∈ zs,-9223372036854775808<=z/\z<=9223372036854775807):Ins w (some ⟨g,0,none⟩) zs:=
 ⟨hr,fun _=>⟨g,0,rfl,h.lt,fun i hi=>by rw [Nat.zero_add];exact h.cell i hi⟩⟩
theorem OwI.rowT {w:World} {B g cap:Nat} {zs:List Int} (h:OwI w B g cap zs):RowT w g zs:=by
 obtain ⟨cur,h1,h2⟩:=OwI.blockG (w':=w) h;refine ⟨cur,h1,fun k hk=>?_⟩
 have:=h.cell k hk;unfold World.cell? at this
 simp only [h1] at this
 simpa using this
theorem SI.putP {w:World} {B R n V:Nat} (h:SI w B R n V) (x width:Int) (hx:0<=x) (h1:0<=width) (h2:width<=30) (hxw:x<2 ^ width.toNat) (hn:n<=4096) :
  Calls Tryz.prog 92 #[.pointer (some ⟨R,0,none⟩),.int .i64 x,.int .i64 width] w fun e w'=>e=.returned (.tuple #[])/\SI w' B R (n+width.toNat) (V+x.toNat*2 ^ n)/\Below B w w'/\Kp R w w':=by
 obtain ⟨v,hR,hv,hV,hBR,hB⟩:=h;have e:((2:Int) ^ width.toNat)=((2 ^ width.toNat:Nat):Int):=by simp
 rw [e] at hxw;have hp:2 ^ width.toNat<=2 ^ 30:=Nat.pow_le_pow_right (by omega) (by omega)
 refine (z20 R B v n V x width w hR hv hV hB hx (by omega) h1 h2 (by omega)).mono ?_
 rintro e w' ⟨rfl,v',hR',hv',ho,_⟩;rw [Nat.mod_eq_of_lt (by omega)] at hv'
 have hb:Below B w w':=ho.below hB (fun k hk=>by
  rcases hk with hk | hk
  ·omega
  ·exact hv.blk hk)
 refine ⟨rfl,⟨v',hR',hv',z0x n V width.toNat x.toNat hV (by omega),hBR,Nat.le_trans hB hb.size⟩,hb,fun g cur T hg hT hgR=>?_⟩
 refine (ho.block g (Array.getElem?_eq_some_iff.1 hg).1 ?_).trans hg;rintro (hk | hk)
 ·exact hgR hk
 ·exact hv.neP hk hg hT rfl
theorem SI.putPn {w:World} {B R n V:Nat} (h:SI w B R n V) (x width:Nat) (h2:width<=30) (hxw:x<2 ^ width) (hn:n<=4096) :
  Calls Tryz.prog 92 #[.pointer (some ⟨R,0,none⟩),.int .i64 (x:Int),.int .i64 (width:Int)] w fun e w'=>e=.returned (.tuple #[])/\SI w' B R (n+width) (V+x*2 ^ n)/\Below B w w'/\Kp R w w':=by
 have hxi:(x:Int)<2 ^ ((width:Int)).toNat:=by
  have e:((2:Int) ^ width)=((2 ^ width:Nat):Int):=by simp
  rw [Int.toNat_natCast,e];exact Int.ofNat_lt.2 hxw
 have:=h.putP (x:Int) (width:Int) (by omega) (by omega) (by omega) hxi hn
 simpa only [Int.toNat_natCast] using this
theorem z8s (R:Nat) (a:Option Addr) (cap:Nat) (zs:List Int) (N at0 p width:Int) (n v:Nat) (w:World) (hb:Byt w a zs) (hz:zs=enc n v) (hn:n<=4104)
  (c0:w.cell? ⟨R,0,none⟩=some (.slice a zs.length cap))
  (h0:0<=p) (h1:0<=width) (h2:width<=30) (h3:p+width<=n) :
  Calls Tryz.prog 190 #[.pointer (some ⟨R,0,none⟩),.int .i64 p,.int .i64 width] w fun e w'=>e=.returned (.int .i64 (v / 2 ^ p.toNat % 2 ^ width.toNat:Nat))/\w'=w:=by
 obtain ⟨q,rfl⟩:=Int.eq_ofNat_of_zero_le h0;obtain ⟨m,rfl⟩:=Int.eq_ofNat_of_zero_le h1
 simp only [Int.toNat_natCast] at *
 have HZ:Hid (zs=enc n v):=hz;have hlen:zs.length=(n+7) / 8:=by rw [hz,z0a]
 have HL:Hid (zs.length=(n+7) / 8):=hlen;clear hz hlen
 go_enter Tryz.func190,Tryz.ntmps190
 go_wp2
 go_loop [7,12] (fun x i=>∃ j:Nat,j<=m/\i=.int .i64 j/\x=.int .i64 (v / 2 ^ q % 2 ^ j:Nat)) (fun _ i=>m-(intOf i).toNat)
 case atStart=>exact ⟨0,Nat.zero_le _,rfl,by simp [Nat.mod_one]⟩
 case round=>
  obtain ⟨j,hj,rfl,rfl⟩:=hrel
  by_cases hlt:j<m
  ·have hx:v / 2 ^ q % 2 ^ j<2 ^ j:=Nat.mod_lt _ (Nat.pow_pos (by omega))
   have HX:=zq9 v q j;have HB:=z2n n v (q+j) (by omega)
   rw [<-HZ.out] at HB;have hbit:v / 2 ^ (q+j) % 2<2:=Nat.mod_lt _ (by omega)
   have hll:(q+j) / 8<zs.length:=by have:=HL.out;omega
   obtain ⟨b,off,rfl,hbl,hc⟩:=hb.len_pos ((q+j) / 8) hll;have hs:=hc ((q+j) / 8) hll;have hr:=z0s hb.1 ((q+j) / 8);generalize hX:v / 2 ^ q % 2 ^ j=X at *;generalize hbt:v / 2 ^ (q+j) % 2=bt at *;generalize zs.getD ((q+j) / 8) 0=z at *;have HX':Hid (v / 2 ^ q % 2 ^ (j+1)=X+bt*2 ^ j):=HX;have HB':Hid (z.toNat / 2 ^ ((q+j) % 8) % 2=bt):=HB;clear HX HB hX hbt hc;go_wp2;go_round
   case rel=>exact ⟨j+1,by omega,by go_num,by rw [zk7 X j _ z hr hx (by omega),HB'.out,HX'.out]⟩
   case measure=>simp [intOf];omega
  ·have hj0:j=m:=by omega
   subst hj0;go_wp2;go_ret;exact ⟨rfl,rfl⟩
theorem zqa (R:Nat) (a:Option Addr) (cap:Nat) (zs:List Int) (n:Nat) (p width:Int) (w:World) (hn:n<=4104) (pb:p<=9223372036854775807)
  (c0:w.cell? ⟨R,0,none⟩=some (.slice a zs.length cap)) (c1:w.cell? ⟨R,1,none⟩=some (.int .i64 n)) (c2:w.cell? ⟨R,2,none⟩=some (.int .i64 p))
  (s0:Sent w 10) (s2:Sent w 17)
  (h:width<0\/30<width\/p<0\/(n:Int)-width<p) :
  Calls Tryz.prog 166 #[.pointer (some ⟨R,0,none⟩),.int .i64 width] w fun e w'=>(∃ T x,e=.returned (.tuple #[.int .i64 0,.iface T x]))/\∃ m,w'=w.drewN m:=by
 obtain ⟨T0,x0,g0⟩:=s0;obtain ⟨T2,x2,g2⟩:=s2;have key:(width<0\/30<width)\/(0<=width/\width<=30/\p<0)\/(0<=width/\width<=30/\0<=p/\(n:Int)-width<p):=by omega
 clear h;rcases key with hh | ⟨k1,k2,k3⟩ | ⟨k1,k2,k3,k4⟩
 ·have hd:Hid (decide (0<=width/\width<=30)=false):=by simp [Hid];omega
  go_enter Tryz.func166,Tryz.ntmps166
  go_wp2_with fail
  refine (z08 width _).mono ?_;rintro e w1 ⟨rfl,rfl⟩;rw [hd.out];go_wp2_with fail
  go_quiet (fail)
  go_wp2
  go_ret2
  exact ⟨⟨_,_,rfl⟩,_,rfl⟩
 ·have hd:Hid (decide (0<=width/\width<=30)=true):=by simp [Hid];omega
  have hp:decide (p<0)=true:=by simpa using k3
  go_enter Tryz.func166,Tryz.ntmps166
  go_wp2_with fail
  refine (z08 width _).mono ?_;rintro e w1 ⟨rfl,rfl⟩;rw [hd.out];go_wp2_with fail
  go_quiet (fail)
  go_wp2
  go_quiet (fail)
  go_wp2
  go_ret2
  exact ⟨⟨_,_,rfl⟩,_,World.drewN_drewN ..⟩
 ·have hd:Hid (decide (0<=width/\width<=30)=true):=by simp [Hid];omega
  have hp:decide (p<0)=false:=by simpa using k3
  go_enter Tryz.func166,Tryz.ntmps166
  go_wp2_with fail
  refine (z08 width _).mono ?_;rintro e w1 ⟨rfl,rfl⟩;rw [hd.out];go_wp2_with fail
  go_quiet (fail)
  go_wp2
  go_quiet (fail)
  go_wp2
  go_ret2
  exact ⟨⟨_,_,rfl⟩,_,World.drewN_drewN ..⟩
theorem z7j (R:Nat) (a:Option Addr) (cap:Nat) (zs:List Int) (n M v:Nat) (p width:Int) (w:World) (hn:n<=4104) (hM:M<=4104) (hnM:n<=M) (hb:Byt w a zs) (hz:zs=enc M v)
  (c0:w.cell? ⟨R,0,none⟩=some (.slice a zs.length cap)) (c1:w.cell? ⟨R,1,none⟩=some (.int .i64 n)) (c2:w.cell? ⟨R,2,none⟩=some (.int .i64 p)) (f2:w.frozen? ⟨R,2,none⟩=false)
  (k1:0<=width) (k2:width<=30) (k3:0<=p) (k4:p<=(n:Int)-width) :
  Calls Tryz.prog 166 #[.pointer (some ⟨R,0,none⟩),.int .i64 width] w fun e w'=>
   e=.returned (.tuple #[.int .i64 (v / 2 ^ p.toNat % 2 ^ width.toNat:Nat),.nilIface])/\∃ m,w'=(w.drewN m).setCell ⟨R,2,none⟩ (.int .i64 (p+width)):=by
 have hd:Hid (decide (0<=width/\width<=30)=true):=by simp [Hid];omega
 have hp:decide (p<0)=false:=by simpa using k3
 have HZ:Hid (zs=enc M v):=hz;clear hz
 go_enter Tryz.func166,Tryz.ntmps166
 go_wp2_with fail
 refine (z08 width _).mono ?_;rintro e w1 ⟨rfl,rfl⟩;rw [hd.out];go_wp2_with fail
 go_quiet (fail)
 go_wp2_with fail
 refine (z8s R a cap zs n p p width M v _ (hb.drewN _) HZ.out hM (by simpa using c0) k3 k1 k2 (by omega)).mono ?_
 rintro e w2 ⟨rfl,rfl⟩;go_wp2
 go_ret2
 exact ⟨rfl,_,rfl⟩
theorem znq (R:Nat) (a:Option Addr) (cap:Nat) (zs:List Int) (n v:Nat) (p width:Int) (w:World) (hn:n<=4104) (hb:Byt w a zs) (hz:zs=enc n v)
  (c0:w.cell? ⟨R,0,none⟩=some (.slice a zs.length cap)) (c1:w.cell? ⟨R,1,none⟩=some (.int .i64 n)) (c2:w.cell? ⟨R,2,none⟩=some (.int .i64 p)) (f2:w.frozen? ⟨R,2,none⟩=false)
  (k1:0<=width) (k2:width<=30) (k3:0<=p) (k4:p<=(n:Int)-width) :
  Calls Tryz.prog 166 #[.pointer (some ⟨R,0,none⟩),.int .i64 width] w fun e w'=>
   e=.returned (.tuple #[.int .i64 (v / 2 ^ p.toNat % 2 ^ width.toNat:Nat),.nilIface])/\∃ m,w'=(w.drewN m).setCell ⟨R,2,none⟩ (.int .i64 (p+width)):=
 z7j R a cap zs n n v p width w hn hn nl hb hz c0 c1 c2 f2 k1 k2 k3 k4
theorem ze8 (R:Nat) (n p:Nat) (w:World) (hn:n<=4104) (hp:p<=4104)
  (c1:w.cell? ⟨R,1,none⟩=some (.int .i64 n)) (c2:w.cell? ⟨R,2,none⟩=some (.int .i64 p)) :
  Calls Tryz.prog 170 #[.pointer (some ⟨R,0,none⟩)] w fun e w'=>e=.returned (.int .i64 ((n:Int)-p))/\∃ m,w'=w.drewN m:=by
 go_enter Tryz.func170,Tryz.ntmps170
 go_wp2_with fail
 go_quiet (fail)
 go_wp2
 go_ret;exact ⟨rfl,_,rfl⟩
theorem znr (R:Nat) (n p:Nat) (X:Value) (w:World) (hn:n<=4104) (hp:p=n)
  (c1:w.cell? ⟨R,1,none⟩=some (.int .i64 n)) (c2:w.cell? ⟨R,2,none⟩=some (.int .i64 p)) (g0:w.cell? ⟨17,0,none⟩=some X) :
  Calls Tryz.prog 183 #[.pointer (some ⟨R,0,none⟩)] w fun e w'=>
   e=.returned (.tuple #[.int .i64 0,.int .i64 0,X])/\∃ m,w'=w.drewN m:=by
 subst hp;have HL:=ze8 R p p w hn hn c1 c2;rw [Int.sub_self] at HL
 go_enter Tryz.func183,Tryz.ntmps183
 go_wp2_with fail
 refine HL.mono ?_;rintro e w1 ⟨rfl,m1,rfl⟩;go_wp2
 go_quiet (fail)
 go_wp2
 exact bodyPost_ret (v:=.tuple #[.int .i64 0,.int .i64 0,X]) (by simp [results,Tryz.results183,go_sem]) rfl ⟨rfl,_,World.drewN_drewN ..⟩
theorem zlb (R:Nat) (a:Option Addr) (cap:Nat) (zs:List Int) (n M v p:Nat) (w:World) (hn:n<=4104) (hM:M<=4104) (hnM:n<=M) (hb:Byt w a zs) (hz:zs=enc M v) (hp:p<n)
  (c0:w.cell? ⟨R,0,none⟩=some (.slice a zs.length cap)) (c1:w.cell? ⟨R,1,none⟩=some (.int .i64 n)) (c2:w.cell? ⟨R,2,none⟩=some (.int .i64 p)) (f2:w.frozen? ⟨R,2,none⟩=false) :
  Calls Tryz.prog 183 #[.pointer (some ⟨R,0,none⟩)] w fun e w'=>
   e=.returned (.tuple #[.int .i64 (v / 2 ^ p % 2 ^ (min (n-p) 30):Nat),.int .i64 (min (n-p) 30:Nat),.nilIface])/\∃ m,w'=(w.drewN m).setCell ⟨R,2,none⟩ (.int .i64 ((p+min (n-p) 30:Nat):Int)):=by
 have HZ:Hid (zs=enc M v):=hz;clear hz;have HL:=ze8 R n p w hn (by omega) c1 c2
 obtain ⟨s,hs⟩:∃ s,s=min (n-p) 30:=⟨_,rfl⟩;rw [<-hs];have key:(s=30/\30<(n:Int)-(p:Int))\/((n:Int)-(p:Int)=(s:Int)/\(s:Int)<=30/\0<(s:Int)):=by omega
 clear hs;rcases key with ⟨rfl,hk⟩ | ⟨hk,hk1,hk2⟩
 ·go_enter Tryz.func183,Tryz.ntmps183
  go_wp2_with fail
  refine HL.mono ?_;rintro e w1 ⟨rfl,m1,rfl⟩;clear HL;go_wp2_with fail
  all_goals try (exfalso;omega)
  refine (z7j R a cap zs n M v (p:Int) 30 _ hn hM hnM (hb.drewN _) HZ.out (by simpa using c0) (by simpa using c1) (by simpa using c2) (by simpa using f2) (by omega) (by omega) (by omega) (by omega)).mono ?_
  rintro e w2 ⟨rfl,m2,rfl⟩;go_wp2;exact bodyPost_ret (v:=.tuple #[.int .i64 (v / 2 ^ p % 2 ^ 30:Nat),.int .i64 30,.nilIface]) (by simp [results,Tryz.results183,go_sem]) rfl ⟨rfl,m1+m2,by simp⟩
 ·rw [hk] at HL
  go_enter Tryz.func183,Tryz.ntmps183
  go_wp2_with fail
  refine HL.mono ?_;rintro e w1 ⟨rfl,m1,rfl⟩;clear HL;go_wp2_with fail
  all_goals try (exfalso;omega)
  refine (z7j R a cap zs n M v (p:Int) (s:Int) _ hn hM hnM (hb.drewN _) HZ.out (by simpa using c0) (by simpa using c1) (by simpa using c2) (by simpa using f2) (by omega) (by omega) (by omega) (by omega)).mono ?_
  rintro e w2 ⟨rfl,m2,rfl⟩;go_wp2;exact bodyPost_ret (v:=.tuple #[.int .i64 (v / 2 ^ p % 2 ^ s:Nat),.int .i64 s,.nilIface]) (by simp [results,Tryz.results183,go_sem]) rfl ⟨rfl,m1+m2,by simp⟩
open Go.Extern.Stop Go.Stop Go.Extern
theorem zm8 (v:Value) (w:World):(Extern.ReflectliteType.typeOf #[.iface 303 v]).run Tryz.prog w=.ok (.iface 292 (.agg #[.pointer (some ⟨26,303,none⟩)])) w:=by kernel_rfl
noncomputable def cmpX:Array Value->Sem Value:=(find Tryz.f251).getD (fun _=>pure .nilIface)
theorem zde (w:World):(cmpX #[.agg #[.pointer (some ⟨26,303,none⟩)]]).run Tryz.prog w=.ok (.bool true) w:=by kernel_rfl
theorem zqb :(Tryz.prog.info? 303).map (·.comparable)=some true:=by kernel_rfl
theorem zpk :(Tryz.prog.info? 329).map (·.size)=some 1:=by kernel_rfl
theorem zld (v : Value) (w : World) : (Go.method 440 292 v "Comparable").run Tryz.prog w = .ok (251, v) w := by kernel_rfl
set_option maxRecDepth 100000 in
theorem zny (a:Addr) (w:World) :
  Calls Tryz.prog 184 #[.iface 303 (.pointer (some a)),.iface 303 (.pointer (some a))] w fun e w'=>e=.returned (.bool true)/\w'=w:=by
 obtain ⟨i,hi,hcmp⟩:=Option.map_eq_some_iff.1 zqb;obtain ⟨j,hj,hjs⟩:=Option.map_eq_some_iff.1 zpk;have hT:=@run_callFunc_extern Tryz.prog 205 _ Extern.ReflectliteType.typeOf Tryz.func205 (by kernel_rfl) (by kernel_rfl) (by kernel_rfl) (by kernel_rfl)
 have hC:=@run_callFunc_extern Tryz.prog 251 _ cmpX Tryz.func251 (by kernel_rfl) (by kernel_rfl) (by kernel_rfl) (by kernel_rfl)
 have tT:=zm8;have cT:=zde;have mR:=zld;have heq:=run_eql_iface_ptr_same (P:=Tryz.prog) w a Tryz.underlying67 Tryz.underlying303 hi hcmp hj
 go_enter Tryz.func184,Tryz.ntmps184
 go_wp2
 refine wp_loop_rounds 1 ?_;rw [rounds_succ];go_wp2;go_ret;exact ⟨rfl,rfl⟩
end Go.Proofs.YtjmcjbmjgpponaaGreatDoor
namespace Go.Proofs.YtjmcjbmjgpponaaGreatDoor
open Go.RowKit
set_option linter.unusedVariables false
theorem zkk (R:Nat) (v:Value) (n:Nat) (x width room:Int) (X:Value) (w:World) (hR:w.heap[R]?=some (.cells #[v,.int .i64 n,.int .i64 room] 154 (0,0))) (hn:n<=4104) (hr0:0<=room) (hroom:room<=5000)
  (g1:w.cell? ⟨11,0,none⟩=some X) (k1:0<=width) (k2:width<=30) (k3:0<=x) (k4':x<2 ^ width.toNat) (k5:room-n<width) :
  Calls Tryz.prog 132 #[.pointer (some ⟨R,0,none⟩),.int .i64 x,.int .i64 width] w fun e w'=>e=.returned X/\∃ m,w'=w.drewN m:=by
 have k4:x<wrap64 (2 ^ width.toNat):=by rw [ze7 _ (by omega)];exact k4'
 have c1:w.cell? ⟨R,1,none⟩=some (.int .i64 n):=zm (j:=1) hR rfl;have c2:w.cell? ⟨R,2,none⟩=some (.int .i64 room):=zm (j:=2) hR rfl;clear hR k4';have hd:Hid (decide (0<=width/\width<=30)=true):=by simp [Hid];omega
 go_enter Tryz.func132,Tryz.ntmps132
 go_wp2_with fail
 refine (z08 width _).mono ?_;rintro e w1 ⟨rfl,rfl⟩;rw [hd.out];go_wp2
 go_quiet (fail)
 go_wp2
 go_ret;exact ⟨rfl,_,rfl⟩
theorem OwnV.only {S:Nat->Prop} {w w':World} {B:Nat} {v:Value} {zs:List Int} (h:OwnV w B v zs) (ho:Only S w w') (hs:∀ k,v.ownBlock=some k->¬S k):OwnV w' B v zs:=by
 rcases h.1.2 with ⟨h1,h2⟩ | ⟨g,cap,cur,rfl,r⟩
 ·exact ⟨⟨h.1.1,.inl ⟨h1,h2⟩⟩,h.2⟩
 ·exact Own.only (g:=g) (cap:=cap) h ho (hs g rfl)
theorem OwnV.ne {w:World} {B k R:Nat} {v:Value} {zs:List Int} {cur:Array Value} {T:TypeId} (h:OwnV w B v zs) (hk:v.ownBlock=some k) (hR:w.heap[R]?=some (.cells cur T (0,0))) (hT:T≠5):k≠R:=by
 rcases h.1.2 with ⟨rfl,h2⟩ | ⟨g,cap,cur',rfl,hg,hh,r⟩
 ·simp [Value.ownBlock] at hk
 ·simp [Value.ownBlock] at hk
  subst hk;exact Own.ne (g:=g) (cap:=cap) h hR hT
theorem Byt.belowB {w w':World} {a:Option Addr} {zs:List Int} {B:Nat} (h:Byt w a zs) (hb:Below B w w') (hB:0<zs.length->∀ x,a=some x->x.block<B):Byt w' a zs:=by
 refine ⟨h.1,fun hp=>?_⟩
 obtain ⟨g,off,rfl,hl,hc⟩:=h.2 hp;have hg:=hB hp _ rfl;exact ⟨g,off,rfl,Nat.lt_of_lt_of_le hl hb.size,fun i hi=>(hb.cell (p:=⟨g,off+i,none⟩) hg).trans (hc i hi)⟩
def z9o (w:World) (Q:Nat):Nat:=match w.cell? ⟨Q,2,none⟩ with | some (.int _ p)=>p.toNat | _=>0
structure Poured (w wr:World) (R B Q:Nat) (b:Option Addr) (L cb n V m U p0 j:Nat) (u:Value):Prop where
 hR:wr.heap[R]?=some (.cells #[u,.int .i64 ((n+j:Nat):Int),.int .i64 4096] 154 (0,0))
 hv:OwnV wr B u (enc (n+j) (V+(U % 2 ^ j)*2 ^ n))
 hQ:wr.heap[Q]?=some (.cells #[.slice b L cb,.int .i64 m,.int .i64 ((p0+j:Nat):Int)] 188 (0,0))
 bel:Below B w wr
theorem Poured.drewN {w wr:World} {R B Q:Nat} {b:Option Addr} {L cb n V m U p0 j:Nat} {u:Value} (h:Poured w wr R B Q b L cb n V m U p0 j u) (k:Nat):Poured w (wr.drewN k) R B Q b L cb n V m U p0 j u:=
 ⟨h.hR,h.hv,h.hQ,below_drewN h.bel k⟩
theorem Poured.ne {w wr:World} {R B Q:Nat} {b:Option Addr} {L cb n V m U p0 j:Nat} {u:Value} (h:Poured w wr R B Q b L cb n V m U p0 j u):Q≠R:=by
 rintro rfl;have:=h.hR.symm.trans h.hQ
 simp at this
set_option maxRecDepth 100000 in
theorem zpf (T:TypeId) (x:Value) (w:World) :
  Calls Tryz.prog 184 #[.nilIface,.iface T x] w fun e w'=>e=.returned (.bool false)/\w'=w:=by
 have hl:=run_eql_iface_nil_left (P:=Tryz.prog) (w:=w) T x Tryz.underlying67
 go_enter Tryz.func184,Tryz.ntmps184
 go_wp2
 go_ret;exact ⟨rfl,rfl⟩
theorem zgj (U p0 j s:Nat):U / 2 ^ (p0+j) % 2 ^ s=U / 2 ^ p0 / 2 ^ j % 2 ^ s:=by
 rw [Nat.pow_add,Nat.div_div_eq_div_mul]
set_option maxRecDepth 100000 in
theorem zmv (R B Q:Nat) (v:Value) (b:Option Addr) (cb:Nat) (ys:List Int) (n V m M U0 p0:Nat) (T1:TypeId) (pe:Addr) (x1:Value) (w:World)
  (hR:w.heap[R]?=some (.cells #[v,.int .i64 n,.int .i64 4096] 154 (0,0))) (hv:OwnV w B v (enc n V)) (hV:V<2 ^ n) (hB:B<=w.heap.size)
  (hQ:w.heap[Q]?=some (.cells #[.slice b ys.length cb,.int .i64 m,.int .i64 p0] 188 (0,0))) (hb:Byt w b ys) (hy:ys=enc M U0) (hn:n<=4096) (hm:m<=M) (hM:M<=4096) (hpm0:p0<=m)
  (hBR:B<=R) (hBQ:B<=Q) (hG:17<B/\11<B) (hbB:0<ys.length->∀ x,b=some x->x.block<B)
  (g0:w.cell? ⟨17,0,none⟩=some (.iface 303 (.pointer (some pe)))) (g1:w.cell? ⟨11,0,none⟩=some (.iface T1 x1)) :
  Calls Tryz.prog 157 #[.pointer (some ⟨R,0,none⟩),.pointer (some ⟨Q,0,none⟩)] w fun e w'=>
   Below B w w'/\(n+(m-p0)<=4096->e=.returned .nilIface/\∃ v',w'.heap[R]?=some (.cells #[v',.int .i64 ((n+(m-p0):Nat):Int),.int .i64 4096] 154 (0,0))/\OwnV w' B v' (enc (n+(m-p0)) (V+(U0 / 2 ^ p0 % 2 ^ (m-p0))*2 ^ n))) /\
    (4096<n+(m-p0)->e=.returned (.iface T1 x1)):=by
 obtain ⟨U,hUe⟩:∃ U,U=U0 / 2 ^ p0:=⟨_,rfl⟩;have HU:Hid (U=U0 / 2 ^ p0):=hUe;obtain ⟨d,rfl⟩:∃ d,m=p0+d:=⟨m-p0,by omega⟩
 rw [Nat.add_sub_cancel_left,<-hUe];clear hUe;have HR:Hid (Poured w w R B Q b ys.length cb n V (p0+d) U p0 0 v):=⟨hR,by simpa [Nat.mod_one] using hv,hQ,Below.refl _ _⟩
 have HY:Hid (ys=enc M U0):=hy;have HVV:Hid (V<2 ^ n):=hV;clear hR hv hQ hy hV
 go_enter Tryz.func157,Tryz.ntmps157
 go_wp2
 go_loopw [] (fun wr=>∃ (j:Nat) (u:Value),j<=d/\n+j<=4096/\Poured w wr R B Q b ys.length cb n V (p0+d) U p0 j u) (fun wr=>p0+d-z9o wr Q)
 case atStart=>exact ⟨0,v,Nat.zero_le _,by omega,HR.out⟩
 case round=>
  obtain ⟨j,u,hpm,hnp,hP⟩:=hrel;have e0:=keep hP.bel hG.1 g0;have c1:wr.cell? ⟨Q,1,none⟩=some (.int .i64 ((p0+d:Nat):Int)):=zm (j:=1) hP.hQ rfl;have c2:wr.cell? ⟨Q,2,none⟩=some (.int .i64 ((p0+j:Nat):Int)):=zm (j:=2) hP.hQ rfl;have c0:wr.cell? ⟨Q,0,none⟩=some (.slice b ys.length cb):=zm (j:=0) hP.hQ rfl;have hat:z9o wr Q=p0+j:=by simp [z9o,c2];omega
  have HE0:Hid (wr.cell? ⟨17,0,none⟩=some (.iface 303 (.pointer (some pe)))):=e0;have HC:Hid _:=(⟨c0,c1,c2⟩:_/\_/\_);have HAT:Hid (z9o wr Q=p0+j):=hat;clear e0 c0 c1 c2 hat
  by_cases hlt:j<d
  ·have HP:Hid (Poured w wr R B Q b ys.length cb n V (p0+d) U p0 j u):=hP
   have HF:Hid (wr.frozen? ⟨Q,2,none⟩=false):=z0q hP.hQ;clear hP;go_wp2_with fail
   refine (zlb Q b cb ys (p0+d) M U0 (p0+j) wr (by omega) (by omega) hm (hb.belowB HP.out.bel hbB) HY.out (by omega) HC.out.1 HC.out.2.1 HC.out.2.2 HF.out).mono ?_
   rintro e w1 ⟨rfl,k1,rfl⟩;obtain ⟨s,hs⟩:∃ s,s=min (d-j) 30:=⟨_,rfl⟩;rw [show min (p0+d-(p0+j)) 30=s from by omega,zgj,<-HU.out]
   have hX:U / 2 ^ j % 2 ^ s<2 ^ s:=Nat.mod_lt _ (Nat.pow_pos (by omega))
   have HPP:Hid (V+(U % 2 ^ j)*2 ^ n+(U / 2 ^ j % 2 ^ s)*2 ^ (n+j)=V+(U % 2 ^ (j+s))*2 ^ n):=z5b n V U j s;have HVP:Hid (V+(U % 2 ^ j)*2 ^ n<2 ^ (n+j)):=z0x n V j (U % 2 ^ j) HVV.out (Nat.mod_lt _ (Nat.pow_pos (by omega)))
   generalize U / 2 ^ j % 2 ^ s=X at *;have HXI:Hid ((X:Int)<2 ^ ((s:Int)).toNat):=by
    have e:((2:Int) ^ s)=((2 ^ s:Nat):Int):=by simp
    rw [Int.toNat_natCast,e]
    show (X:Int)<_
    exact Int.ofNat_lt.2 hX
   have hP1:=HP.out.drewN k1;have hne:=hP1.ne;have hszw:=hP1.bel.size;have hs1:s<=30:=by omega
   have hs2:j+s<=d:=by omega
   have hs3:0<s:=by omega
   clear hs hX;rw [show p0+j+s=p0+(j+s) from by omega]
   have hO1:Only (fun k=>k=Q) (wr.drewN k1) ((wr.drewN k1).setCell ⟨Q,2,none⟩ (.int .i64 ((p0+(j+s):Nat):Int))):=Only.setCell (Only.refl (fun k=>k=Q) (wr.drewN k1)) (p:=⟨Q,2,none⟩) (.inl rfl) _
   have hR1:((wr.drewN k1).setCell ⟨Q,2,none⟩ (.int .i64 ((p0+(j+s):Nat):Int))).heap[R]?=some (.cells #[u,.int .i64 ((n+j:Nat):Int),.int .i64 4096] 154 (0,0)):=by
    rw [Below.heap_setCell _ _ _ _ (by simpa using hne.symm)];exact hP1.hR
   have hQ1:((wr.drewN k1).setCell ⟨Q,2,none⟩ (.int .i64 ((p0+(j+s):Nat):Int))).heap[Q]?=some (.cells #[.slice b ys.length cb,.int .i64 ((p0+d:Nat):Int),.int .i64 ((p0+(j+s):Nat):Int)] 188 (0,0)):=by
    rw [heap_setCell_same _ Q 2 _ _ _ hP1.hQ];simp
   have hv1:OwnV ((wr.drewN k1).setCell ⟨Q,2,none⟩ (.int .i64 ((p0+(j+s):Nat):Int))) B u (enc (n+j) (V+(U % 2 ^ j)*2 ^ n)):=OwnV.only hP1.hv hO1 (fun k hk=>OwnV.ne hP1.hv hk hP1.hQ (by decide))
   have hb1:Below B w ((wr.drewN k1).setCell ⟨Q,2,none⟩ (.int .i64 ((p0+(j+s):Nat):Int))):=hP1.bel.setCell (by simpa using hBQ) _
   have hz1:B<=((wr.drewN k1).setCell ⟨Q,2,none⟩ (.int .i64 ((p0+(j+s):Nat):Int))).heap.size:=Nat.le_trans hB hb1.size;clear hP1 hO1 HP HF HC HE0;generalize (wr.drewN k1).setCell ⟨Q,2,none⟩ (.int .i64 ((p0+(j+s):Nat):Int))=w1 at *;have H1:Hid _:=(⟨hR1,hQ1,hv1,hb1⟩:_/\_/\_/\_);have e0:=keep H1.out.2.2.2 hG.1 g0;clear hR1 hQ1 hv1 hb1;go_wp2_with fail
   refine (zpf _ _ _).mono ?_;rintro e w1' ⟨rfl,rfl⟩;clear e0
   by_cases hfit:n+j+s<=4096
   ·go_wp2_with fail
    refine (zli R B u (n+j) (V+(U % 2 ^ j)*2 ^ n) (X:Int) (s:Int) 4096 _ H1.out.1 H1.out.2.2.1 HVP.out hz1 (by omega) (by omega) (by omega) HXI.out (by omega) (by omega) (by omega)).mono ?_
    rintro e w2 ⟨rfl,v',hR2,hv2,ho2,hrow2⟩
    simp only [Int.toNat_natCast] at hR2 hv2
    rw [HPP.out] at hv2;have hQl:Q<w1'.heap.size:=(Array.getElem?_eq_some_iff.1 H1.out.2.1).1;have hQ2:=(ho2.block Q hQl (by
     rintro (h | h)
     ·exact hne h
     ·exact OwnV.ne H1.out.2.2.1 h H1.out.2.1 (by decide) rfl)).trans H1.out.2.1
    have hb2:Below B w w2:=H1.out.2.2.2.trans (ho2.below hz1 (by
     rintro k (h | h)
     ·omega
     ·exact (H1.out.2.2.1.1.lt _ h).1))
    have HF:Hid (Poured w w2 R B Q b ys.length cb n V (p0+d) U p0 (j+s) v'):=⟨by rw [hR2,Nat.add_assoc],by rw [<-Nat.add_assoc];exact hv2,hQ2,hb2⟩
    have hat2:Hid (z9o w2 Q=p0+(j+s)):=by unfold Hid;simp [z9o,zm (j:=2) hQ2 rfl];omega
    clear hR2 hv2 hQ2 hb2 ho2 hrow2 H1;go_wp2;go_roundw
    case rel=>exact ⟨j+s,v',by omega,by omega,HF.out⟩
    case measure=>rw [HAT.out,hat2.out];omega
   ·have e1:=keep H1.out.2.2.2 hG.2 g1
    go_wp2_with fail
    refine (zkk R u (n+j) (X:Int) (s:Int) 4096 (.iface T1 x1) _ H1.out.1 (by omega) (by omega) (by omega) e1 (by omega) (by omega) (by omega) HXI.out (by omega)).mono ?_
    rintro e w2 ⟨rfl,k2,rfl⟩;have HB2:Hid (Below B w (w1'.drewN k2)):=below_drewN H1.out.2.2.2 k2;clear H1 e1;generalize w1'.drewN k2=w2 at *;go_wp2;go_ret;exact ⟨HB2.out,fun h=>by omega,fun _=>rfl⟩
  ·have hpe:j=d:=by omega
   subst hpe;have HP:Hid (Poured w wr R B Q b ys.length cb n V (p0+j) U p0 j u):=hP;clear hP;go_wp2_with fail
   refine (znr Q (p0+j) (p0+j) (.iface 303 (.pointer (some pe))) wr (by omega) rfl HC.out.2.1 HC.out.2.2 HE0.out).mono ?_
   rintro e w1 ⟨rfl,k1,rfl⟩;have HP1:Hid (Poured w (wr.drewN k1) R B Q b ys.length cb n V (p0+j) U p0 j u):=HP.out.drewN k1;clear HP HC HE0;generalize wr.drewN k1=wf at *;have e0:=keep HP1.out.bel hG.1 g0;go_wp2_with fail
   refine (zny pe _).mono ?_;rintro e wf' ⟨rfl,rfl⟩;go_wp2;go_ret;exact ⟨HP1.out.bel,fun _=>⟨rfl,u,HP1.out.hR,HP1.out.hv⟩,fun h=>by omega⟩
end Go.Proofs.YtjmcjbmjgpponaaGreatDoor
