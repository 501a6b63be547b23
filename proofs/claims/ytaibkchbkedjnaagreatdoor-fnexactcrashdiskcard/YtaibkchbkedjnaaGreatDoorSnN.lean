import Derived.Test.YtaibkchbkedjnaaGreatDoorBosW
import Derived.Test.YtaibkchbkedjnaaGreatDoorDkStb
set_option maxRecDepth 20000
set_option maxHeartbeats 16000000
namespace Go.Proofs.YtaibkchbkedjnaaGreatDoor
open Go.RowKit
set_option linter.unusedVariables false
theorem z1x (a:Option Addr) (cap:Nat) (bs:List Bool) (w:World) (hb:Bos w a bs) (hn:bs.length<=1048576) :
  Calls Tryz.prog 20 #[.slice a bs.length cap] w fun e w'=>
   e=.returned (.slice (some ⟨w.heap.size,0,none⟩) bs.length bs.length)/\OwBo w' w.heap.size w.heap.size bs.length bs/\Below w.heap.size w w':=by
 obtain ⟨i0,hi,hz0,hz1,hz2⟩:=info_parts Tryz.infoBool;have HBS:Hid (Bos w a bs):=hb;clear hb;have HFI:Hid (z0r bs bs.length=bs/\z0r bs 0=List.replicate bs.length false):=⟨by simp [z0r],by simp [z0r]⟩
 generalize hlen:bs.length=n at *;have HL:Hid (bs.length=n/\True):=⟨hlen,trivial⟩;clear hlen
 go_enter Tryz.func20,Tryz.ntmps20
 go_wp2_with (at_make;refine wpList_make_full _ rfl _ _ 56 rfl w.heap.size 4 i0 (.bool false) 1 Tryz.underlying56 hi hz0 hz1 .i64 .i64 _ _ n rfl rfl rfl rfl (by rw [hz2];omega) (by unfold maxLen;omega) nl ?_;intro w1 hown hgrow)
 have hbw:Below w.heap.size w w1:=(Below.refl _ _).grown hgrow nl (by intro k hk;cases hk)
 have H0:Hid (OwBo w1 w.heap.size w.heap.size n (z0r bs 0)):=by
  rw [HFI.out.2];rw [ze6] at hown;exact ⟨by simpa using hown⟩
 clear hown hgrow hi hz0 hz1 hz2
 go_loopw [4] (fun i wr=>∃ k:Nat,k<=n/\i=.int .i64 k/\OwBo wr w.heap.size w.heap.size n (z0r bs k)/\Below w.heap.size w wr) (fun i _=>n-(intOf i).toNat)
 case atStart=>exact ⟨0,Nat.zero_le _,rfl,H0.out,hbw⟩
 case round=>
  obtain ⟨k,hk,rfl,hown,hbel⟩:=hrel;have HO:Hid (OwBo wr w.heap.size w.heap.size n (z0r bs k)):=hown;clear hown hbw
  by_cases hlt:k<n
  ·obtain ⟨b,off,rfl,hbl,hsrc0⟩:=HBS.out.pos k (by rw [HL.out.1];exact hlt)
   have hpl:(z0r bs k).length=n:=by rw [zfk _ _ (by rw [HL.out.1];omega)];exact HL.out.1
   have hsrc:=keep hbel hbl hsrc0;have hdst:=HO.out.cell k (by omega)
   have hfz:=HO.out.frozen k;have R:=HO.out.store k (bs.getD k false);rw [zfu _ _ (by rw [HL.out.1];exact hlt)] at R
   have HR:Hid (OwBo (wr.setCell ⟨w.heap.size,k,none⟩ (.bool (bs.getD k false))) w.heap.size w.heap.size n (z0r bs (k+1))):=R;have HBL:Hid (Below w.heap.size w (wr.setCell ⟨w.heap.size,k,none⟩ (.bool (bs.getD k false)))):=hbel.setCell (p:=⟨w.heap.size,k,none⟩) nl _;clear R hpl hsrc0;generalize bs.getD k false=z at *;generalize (z0r bs k).getD k false=z0 at *;go_wp2;go_roundw
   case rel=>exact ⟨k+1,by omega,by go_num,HR.out,HBL.out⟩
   case measure=>simp [intOf];omega
  ·have hkn:k=n:=by omega
   subst hkn;have HA:Hid (OwBo wr w.heap.size w.heap.size k bs):=by rw [<-HFI.out.1];exact HO.out
   go_wp2
   go_ret;exact ⟨rfl,HA.out,hbel⟩
theorem zcv (a b:Option Addr) (ca cb:Nat) (xs:List Bool) (w:World) (ha:Bos w a xs) (hb:Bos w b xs) (hx:xs.length<=281474976710656) :
  Calls Tryz.prog 23 #[.slice a xs.length ca,.slice b xs.length cb] w fun e w'=>e=.returned (.bool true)/\∃ n,w'=w.drewN n:=by
 have HA:Hid (Bos w a xs/\Bos w b xs):=⟨ha,hb⟩;clear ha hb;generalize hlen:xs.length=n at *;have HL:Hid (xs.length=n/\True):=⟨hlen,trivial⟩;clear hlen;have hnn:((n:Int) != (n:Int))=false:=by simp
 go_enter Tryz.func23,Tryz.ntmps23
 go_wp2
 go_loopw [5] (fun i wr=>∃ k m:Nat,k<=n/\i=.int .i64 k/\wr=w.drewN m) (fun i _=>n-(intOf i).toNat)
 case atStart=>exact ⟨0,0,Nat.zero_le _,rfl,rfl⟩
 case round=>
  obtain ⟨k,m,hk,rfl,rfl⟩:=hrel
  by_cases hlt:k<n
  ·obtain ⟨b1,o1,rfl,hb1,hs1⟩:=HA.out.1.pos k (by rw [HL.out.1];exact hlt)
   obtain ⟨b2,o2,rfl,hb2,hs2⟩:=HA.out.2.pos k (by rw [HL.out.1];exact hlt)
   generalize xs.getD k false=z at *;have hq:(z != z)=false:=by simp
   go_wp2
   go_quiet (fail)
   go_wp2
   go_roundw
   case rel=>exact ⟨k+1,_,by omega,by go_num,rfl⟩
   case measure=>simp [intOf];omega
  ·have hkn:k=n:=by omega
   subst hkn;go_wp2;go_ret;exact ⟨rfl,_,rfl⟩
theorem za4 (B g cap:Nat) (bs:List Bool) (k:Int) (w:World) (h:OwBo w B g cap bs) (hn:bs.length<=4194304) (h0:0<=k) (h1:k<=4194304) :
  Calls Tryz.prog 24 #[.slice (some ⟨g,0,none⟩) bs.length cap,.int .i64 k] w fun e w'=>e=.returned (.int .i64 (k+bs.length))/\(∃ cs,cs.length=bs.length/\OwBo w' B g cap cs)/\Only (·=g) w w':=by
 have HO:Hid (OwBo w B g cap bs):=h;clear h;generalize hlen:bs.length=n at *;have HL:Hid (bs.length=n/\True):=⟨hlen,trivial⟩;clear hlen
 go_enter Tryz.func24,Tryz.ntmps24
 go_wp2
 go_loopw [1,5] (fun q i wr=>∃ (j:Nat) (cs:List Bool),j<=n/\i=.int .i64 j/\q=.int .i64 (k+j)/\cs.length=n/\OwBo wr B g cap cs/\Only (·=g) w wr) (fun _ i _=>n-(intOf i).toNat)
 case atStart=>exact ⟨0,bs,Nat.zero_le _,rfl,by simp,HL.out.1,HO.out,Only.refl _ _⟩
 case round=>
  obtain ⟨j,cs,hj,rfl,rfl,hcl,hown,honly⟩:=hrel
  by_cases hlt:j<n
  ·have hdst:=hown.cell j (by omega)
   have hfz:=hown.frozen j;have HR:Hid (∀ z:Bool,OwBo (wr.setCell ⟨g,j,none⟩ (.bool z)) B g cap (cs.set j z)):=fun z=>hown.store j z
   have HB:Hid (∀ z:Bool,Only (·=g) w (wr.setCell ⟨g,j,none⟩ (.bool z))):=fun z=>honly.setCell (.inl rfl) _
   have HCL:Hid (cs.length=n/\True):=⟨hcl,trivial⟩;generalize cs.getD j false=old at *;clear hown honly hcl;go_wp2;go_roundw
   case rel=>exact ⟨j+1,cs.set j _,by omega,by go_num,by go_num,by rw [List.length_set];exact HCL.out.1,HR.out _,HB.out _⟩
   case measure=>simp [intOf];omega
  ·have hjn:j=n:=by omega
   subst hjn;have HF:Hid (OwBo wr B g cap cs/\cs.length=j):=⟨hown,hcl⟩;clear hown hcl;go_wp2;go_ret;exact ⟨rfl,⟨cs,HF.out.2,HF.out.1⟩,honly⟩
theorem z40 (a:Option Addr) (cap n:Nat) (k:Int) (w:World) (h:Byt w a (z04 k n)) (hn:n<=2097152) (h0:0<=k) (h1:k<=2097152) :
  Calls Tryz.prog 18 #[.slice a n cap,.int .i64 k] w fun e w'=>e=.returned (.int .i64 (k+n))/\w'=w:=by
 have hl:=z08 k n;have HB:Hid (Byt w a (z04 k n)):=h;clear h
 go_enter Tryz.func18,Tryz.ntmps18
 go_wp2
 go_loop [1,5] (fun q i=>∃ j:Nat,j<=n/\i=.int .i64 j/\q=.int .i64 (k+j)) (fun _ i=>n-(intOf i).toNat)
 case atStart=>exact ⟨0,Nat.zero_le _,rfl,by simp⟩
 case round=>
  obtain ⟨j,hj,rfl,rfl⟩:=hrel
  by_cases hlt:j<n
  ·obtain ⟨b,off,rfl,hbl,hc⟩:=HB.out.len_pos j (by rw [hl];exact hlt)
   have hs:=hc j (by rw [hl];exact hlt)
   rw [zga k n j hlt] at hs;have hq:((k+j) % 256 != (k+j) % 256)=false:=by simp
   clear hc hl;go_wp2;go_round
   case rel=>exact ⟨j+1,by omega,by go_num,by go_num⟩
   case measure=>simp [intOf];omega
  ·have hjn:j=n:=by omega
   subst hjn;go_wp2;go_ret;exact ⟨rfl,rfl⟩
set_option linter.unusedSimpArgs false
theorem z7v (a:Option Addr) (cap:Nat) (ss:List El) (k:Int) (w:World) (h:Els false w a (mkE false k ss)) (hn:ss.length+zb ss<=1048576) (h0:0<=k) (h1:k<=1) :
  Calls Tryz.prog 31 #[.slice a ss.length cap,.int .i64 k] w fun e w'=>e=.returned (.int .i64 (k+zb ss))/\w'=w:=by
 have HGE:Hid _:=z7i false k ss;have HSU:Hid _:=z2k false k ss;have HLB:Hid _:=z3a false k ss;have HSS:Hid (Els false w a (mkE false k ss)):=h;have HMM:Hid (∀ j,j<ss.length->(ss.getD j de).ls.length<=zb ss):=fun j hj=>z0e (zf hj)
 have HFI:Hid ((mkE false k ss).length=ss.length/\mkA false k ss ss.length=k+zb ss):=⟨z0w _ _ _,by rw [z38];simp [eO]⟩
 clear h;generalize hlen:ss.length=n at *;have HL:Hid (ss.length=n/\True):=⟨hlen,trivial⟩;clear hlen;generalize hT:zb ss=T at *;clear hT
 go_enter Tryz.func31,Tryz.ntmps31
 go_wp2
 go_loop [1,5] (fun q i=>∃ (j:Nat) (y:Int),j<=n/\i=.int .i64 j/\q=.int .i64 y/\y=mkA false k ss j) (fun _ i=>n-(intOf i).toNat)
 case atStart=>exact ⟨0,k,Nat.zero_le _,rfl,rfl,by simp [mkA,zb]⟩
 case round=>
  obtain ⟨j,y,hj,rfl,rfl,hy⟩:=hrel;have hyb:=HLB.out j hj;have HY:Hid (y=mkA false k ss j/\True):=⟨hy,trivial⟩;rw [<-hy] at hyb;clear hy
  by_cases hjn:j<n
  ·obtain ⟨b,off,rfl,hb1,c0,hby,-⟩:=HSS.out.sec j (by rw [HFI.out.1];exact hjn)
   rw [HGE.out j hjn,<-HY.out.1] at c0 hby
   simp only [mk1,z08] at c0 hby
   rw [show y+((eO false:Nat):Int)=y from by simp [eO]] at hby
   have HBY:Hid (Byt w (ss.getD j de).a (z04 y (ss.getD j de).ls.length)):=hby;have HYN:Hid (mkA false k ss (j+1)=y+(ss.getD j de).ls.length/\True):=⟨by rw [HSU.out j hjn,HY.out.1];simp [eO],trivial⟩
   have hT2:=HMM.out j hjn;clear hby HY;generalize ss.getD j de=s at *;have HHB:=z40 s.a s.c s.ls.length y w HBY.out (by omega) (by omega) (by omega)
   generalize s.ls.length=M at *;go_wp2_with fail
   refine HHB.mono ?_;clear HHB;rintro e w2 ⟨rfl,rfl⟩;go_wp2;go_round
   case rel=>exact ⟨j+1,_,by omega,by go_num,rfl,HYN.out.1.symm⟩
   case measure=>simp [intOf];omega
  ·have hjn2:j=n:=by omega
   subst hjn2;have HYF:Hid (y=k+(T:Nat)/\True):=⟨HY.out.1.trans HFI.out.2,trivial⟩;go_wp2;go_ret;exact ⟨by rw [<-HYF.out.1];rfl,rfl⟩
theorem z9z (a:Option Addr) (cap:Nat) (ss:List El) (k:Int) (w:World) (h:Els true w a (mkE true k ss)) (hn:ss.length+zb ss<=1048576) (h0:0<=k) (h1:k+ss.length+zb ss<2097152) :
  Calls Tryz.prog 65 #[.slice a ss.length cap,.int .i64 k] w fun e w'=>e=.returned (.int .i64 (k+zb ss+ss.length))/\w'=w:=by
 have HGE:Hid _:=z7i true k ss;have HSU:Hid _:=z2k true k ss;have HLB:Hid _:=z3a true k ss;have HSS:Hid (Els true w a (mkE true k ss)):=h;have HMM:Hid (∀ j,j<ss.length->(ss.getD j de).ls.length<=zb ss):=fun j hj=>z0e (zf hj)
 have HFI:Hid ((mkE true k ss).length=ss.length/\mkA true k ss ss.length=k+zb ss+ss.length):=⟨z0w _ _ _,by rw [z38];simp [eO]⟩
 clear h;generalize hlen:ss.length=n at *;have HL:Hid (ss.length=n/\True):=⟨hlen,trivial⟩;clear hlen;generalize hT:zb ss=T at *;clear hT
 go_enter Tryz.func65,Tryz.ntmps65
 go_wp2
 go_loop [1,5] (fun q i=>∃ (j:Nat) (y:Int),j<=n/\i=.int .i64 j/\q=.int .i64 y/\y=mkA true k ss j) (fun _ i=>n-(intOf i).toNat)
 case atStart=>exact ⟨0,k,Nat.zero_le _,rfl,rfl,by simp [mkA,zb]⟩
 case round=>
  obtain ⟨j,y,hj,rfl,rfl,hy⟩:=hrel;have hyb:=HLB.out j hj;have HY:Hid (y=mkA true k ss j/\True):=⟨hy,trivial⟩;rw [<-hy] at hyb;clear hy
  by_cases hjn:j<n
  ·obtain ⟨b,off,rfl,hb1,c0,c1,hby,-⟩:=HSS.out.pen j (by rw [HFI.out.1];exact hjn)
   rw [HGE.out j hjn,<-HY.out.1] at c0 c1 hby
   simp only [mk1,z08,cond_true] at c0 c1 hby
   rw [show y+((eO true:Nat):Int)=y+1 from by simp [eO]] at hby
   have HBY:Hid (Byt w (ss.getD j de).a (z04 (y+1) (ss.getD j de).ls.length)):=hby;have HYN:Hid (mkA true k ss (j+1)=y+1+(ss.getD j de).ls.length/\True):=⟨by rw [HSU.out j hjn,HY.out.1];simp [eO],trivial⟩
   have hT2:=HMM.out j hjn;clear hby HY;generalize ss.getD j de=s at *;have HHB:=z40 s.a s.c s.ls.length (y+1) w HBY.out (by omega) (by omega) (by omega)
   generalize s.ls.length=M at *;have hyy:(y != y)=false:=by simp
   go_wp2_with fail
   refine HHB.mono ?_;clear HHB;rintro e w2 ⟨rfl,rfl⟩;go_wp2;go_round
   case rel=>exact ⟨j+1,_,by omega,by go_num,rfl,HYN.out.1.symm⟩
   case measure=>simp [intOf];omega
  ·have hjn2:j=n:=by omega
   subst hjn2;have HYF:Hid (y=k+(T:Nat)+(j:Nat)/\True):=⟨HY.out.1.trans HFI.out.2,trivial⟩;go_wp2;go_ret;exact ⟨by rw [<-HYF.out.1];rfl,rfl⟩
theorem zd8 (sa pa:Option Addr) (sc pc:Nat) (ss ps:List El) (w:World) (h:RawI w sa pa (z1o ss) (z2m ss ps)) (hf:Few ss ps) :
  Calls Tryz.prog 26 #[.agg #[.slice sa ss.length sc,.slice pa ps.length pc],.int .i64 1] w fun e w'=>e=.returned (.int .i64 (mkN ss ps))/\Below w.heap.size w w':=by
 have H0:Hid (RawI w sa pa (z1o ss) (z2m ss ps)):=h;have HF:Hid (Few ss ps):=hf;clear h hf
 go_enter Tryz.func26,Tryz.ntmps26
 have HW:Hid (Below w.heap.size w (w.alloc (Obj.cells #[.slice sa ss.length sc,.slice pa ps.length pc] 41))):=ba;have HX:Hid (Box2 (w.alloc (Obj.cells #[.slice sa ss.length sc,.slice pa ps.length pc] 41)) w.heap.size (.slice sa ss.length sc) (.slice pa ps.length pc)):=Box2.new _ _ _ _;go_wp2_with fail
 generalize w.alloc (Obj.cells #[.slice sa ss.length sc,.slice pa ps.length pc] 41)=W at *;refine (z7v sa sc ss 1 W (H0.out.1.below HW.out nl) (by have:=HF.out.sum;omega) (by omega) (by omega)).mono ?_
 rintro e w1 ⟨rfl,rfl⟩;obtain ⟨x0,x1,-,-,xl⟩:=HX.out;have HSM:=HF.out.sum;have HMP:=z9z pa pc ps (1+zb ss) w1 (H0.out.2.below HW.out nl) (by omega) (by omega) (by omega)
 have HNN:Hid (mkN ss ps=1+(zb ss:Int)+zb ps+ps.length/\True):=⟨rfl,trivial⟩;generalize zb ss=E at *;go_wp2_with fail
 refine HMP.mono ?_;clear HMP;rintro e w2 ⟨rfl,rfl⟩;go_wp2;go_ret;exact ⟨by rw [HNN.out.1];rfl,HW.out⟩
structure SnN (w W:World) (U:Nat) (va vb:Value) (ms bs:List El) (X Y:Nat) (vc vd:Value) (cs ds:List El):Prop where
 bel:Below w.heap.size w W
 hU:w.heap.size<=U
 hX:U<X
 hY:X<=Y
 mw:RawO W w.heap.size va vb ms bs
 iw:∀ k,z1t va vb ms bs k->k<U
 bw:Box2 W U va vb
 mg:RawO W X vc vd cs ds
 ig:∀ k,z1t vc vd cs ds k->k<Y
 bg:Box2 W Y vc vd
section
variable {w W W' : World} {U : Nat} {va vb : Value} {ms bs : List El} {X Y : Nat} {vc vd : Value} {cs ds : List El}
end
theorem zlv (ss ps:List El):(z1o ss++z2m ss ps).map El.a=(ss++ps).map El.a:=by
 unfold z1o z2m;rw [List.map_append,List.map_append,z6v,z6v]
end Go.Proofs.YtaibkchbkedjnaaGreatDoor
