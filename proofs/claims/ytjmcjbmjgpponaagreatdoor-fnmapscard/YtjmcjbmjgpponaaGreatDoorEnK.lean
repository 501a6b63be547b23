import Derived.Test.YtjmcjbmjgpponaaGreatDoorSqB
import Derived.Test.YtjmcjbmjgpponaaGreatDoorEnT
set_option maxRecDepth 20000
set_option maxHeartbeats 16000000
namespace Go.Proofs.YtjmcjbmjgpponaaGreatDoor
open Go.RowKit
set_option linter.unusedVariables false
set_option linter.unusedSimpArgs false
structure zr7 (w w':World) (sa:Option Addr) (sc:Nat) (va:Option Addr) (vc:Nat) (ts zs:List Int):Prop where
 mi:MinI w' w.heap.size w'.heap.size sa sc ts
 mb:Mine w' w.heap.size w'.heap.size va vc zs
 bel:Below w.heap.size w w'
def noY (w w':World) (e:Ending):Prop:=e=.returned (.tuple #[.slice none 0 0,.agg #[.slice none 0 0,.int .i64 0],.bool false])/\Below w.heap.size w w'
def zra (w w':World) (ss:List Sq) (e:Ending):Prop:=∃ sa sc va vc,e=.returned (.tuple #[.slice sa (ze ss).1.length sc,.agg #[.slice va (enc (ze ss).2.1 (ze ss).2.2).length vc,.int .i64 ((ze ss).2.1:Nat)],.bool true])/\zr7 w w' sa sc va vc (ze ss).1 (enc (ze ss).2.1 (ze ss).2.2)
def syA (w w':World) (ss:List Sq) (e:Ending):Prop:=((sqn ss).isSome=true->zra w w' ss e)/\((sqn ss).isSome=false->noY w w' e)
theorem z35 (a:Option Addr) (cap:Nat) (zs:List Int) (N:Int) (w:World) (hb:Byt w a zs) (hn:zs.length<=281474976710656) :
  Calls Tryz.prog 101 #[.agg #[.slice a zs.length cap,.int .i64 N]] w fun e w'=>e=.returned (.bool (okB N zs))/\Below w.heap.size w w':=by
 have hw:Bw w (w.alloc (Obj.cells #[.slice a zs.length cap,.int .i64 N] 106)):=bAw
 by_cases h0:N<0
 ·have hE:okB N zs=false:=znu h0
  rw [hE];clear hE
  go_enter Tryz.func101,Tryz.ntmps101
  go_wp2
  go_ret;exact ⟨rfl,hw⟩
 ·by_cases h1:4096<N
  ·have hE:okB N zs=false:=zfi h1
   rw [hE];clear hE
   go_enter Tryz.func101,Tryz.ntmps101
   go_wp2
   go_ret;exact ⟨rfl,hw⟩
  ·by_cases h2:(zs.length:Int)=(N+7) / 8
   ·generalize hlz:zs.length=n at *
    have HL:Hid (zs.length=n):=hlz;clear hlz;have h2':((n:Int) != (N+7) / 8)=false:=by simpa using h2
    have H2:Hid ((n:Int)=(N+7) / 8):=h2;clear h2
    by_cases h3:N % 8=0
    ·have hE:okB N zs=true:=z7v (by omega) (by omega) (by rw [HL.out];exact H2.out) h3
     have h3':(N % 8 == 0)=true:=by simpa using h3
     rw [hE];clear hE h3
     go_enter Tryz.func101,Tryz.ntmps101
     go_wp2
     go_quiet (fail)
     go_wp2
     go_ret;exact ⟨rfl,below_drewN hw _⟩
    ·have hn1:1<=n:=by have:=H2.out;omega
     have h3':(N % 8 == 0)=false:=by simpa using h3
     obtain ⟨b,off,rfl,hbl,hc⟩:=hb.len_pos (n-1) (by rw [HL.out];omega)
     have hlast:=hc (n-1) (by rw [HL.out];omega)
     have hr:=z0s hb.1 (n-1);have hE:okB N zs=(zs.getD (n-1) 0 / 2 ^ (N % 8).toNat == 0):=by
      rw [z7n (by omega) (by omega) (by rw [HL.out];exact H2.out) h3,HL.out]
     rw [hE];clear hE;generalize zs.getD (n-1) 0=z at *
     go_enter Tryz.func101,Tryz.ntmps101
     go_wp2
     go_quiet (fail)
     go_wp2
     go_ret;exact ⟨rfl,below_drewN hw _⟩
   ·have hE:okB N zs=false:=zp5 h2
    have h2':((zs.length:Int) != (N+7) / 8)=true:=by rw [bne_iff_ne];exact h2
    rw [hE];clear hE h2
    go_enter Tryz.func101,Tryz.ntmps101
    go_wp2
    go_ret;exact ⟨rfl,hw⟩
theorem zn6 (w:World) (o1 o2 o3:Obj):(((w.alloc o1).alloc o2).alloc o3).drew.heap[w.heap.size+1+1]?=some o3:=by
 show (((w.heap.push o1).push o2).push o3)[w.heap.size+1+1]?=_
 simp only [Array.getElem?_push,Array.size_push,if_true]
theorem zqr (w:World) (o1 o2 o3:Obj) (b o:Nat) (h:b<w.heap.size):(((w.alloc o1).alloc o2).alloc o3).drew.cell? ⟨b,o,none⟩=w.cell? ⟨b,o,none⟩:=
 ((((Below.refl w.heap.size w).alloc nl o1).alloc (by simp) o2).alloc (by simp;omega) o3).drew.cell (p:=⟨b,o,none⟩) h
theorem le3 (w:World) (o1 o2 o3:Obj):w.heap.size+1+1<=(((w.alloc o1).alloc o2).alloc o3).drew.heap.size:=by
 show w.heap.size+1+1<=(((w.heap.push o1).push o2).push o3).size
 simp
theorem zpz {w w1:World} {x0 x1 y0 y1:Value} {T U:TypeId} {o3:Obj} {row:Option Nat} (h:(((w.alloc (.cells #[x0,x1] T)).alloc (.cells #[y0,y1] U)).alloc o3).drew.grownBy w1 row) (hr:row=some (w.heap.size+1+1)) :
  w1.cell? ⟨w.heap.size,0,none⟩=some x0/\w1.cell? ⟨w.heap.size,1,none⟩=some x1/\w1.cell? ⟨w.heap.size+1,0,none⟩=some y0/\w1.cell? ⟨w.heap.size+1,1,none⟩=some y1 /\
   w1.frozen? ⟨w.heap.size+1,0,none⟩=false/\w1.frozen? ⟨w.heap.size+1,1,none⟩=false/\Below w.heap.size w w1:=by
 subst hr;have hb:Below (w.heap.size+1+1) (((w.alloc (.cells #[x0,x1] T)).alloc (.cells #[y0,y1] U)).alloc o3) w1:=
  ⟨h.os,h.tape,h.output,h.size,fun k hk=>h.block k (by show k<(((w.heap.push _).push _).push _).size;simp;omega) (by simp;omega)⟩
 have f:∀ j,(((w.alloc (.cells #[x0,x1] T)).alloc (.cells #[y0,y1] U)).alloc o3).frozen? ⟨w.heap.size+1,j,none⟩=false:=fun j=>
  (((Below.refl ((w.alloc (.cells #[x0,x1] T)).alloc (.cells #[y0,y1] U)).heap.size _).alloc nl o3).frozen (p:=⟨w.heap.size+1,j,none⟩) (by simp)).trans (by simp)
 refine ⟨keep hb (by omega) (zb _ (by simp;omega) (zb _ (by simp) (by simp))),keep hb (by omega) (zb _ (by simp;omega) (zb _ (by simp) (by simp))),keep hb (by omega) (zb _ (by simp) (by simp)),keep hb (by omega) (zb _ (by simp) (by simp)),?_,?_,?_⟩
 ·exact (hb.frozen (p:=⟨w.heap.size+1,0,none⟩) (by simp)).trans (f 0)
 ·exact (hb.frozen (p:=⟨w.heap.size+1,1,none⟩) (by simp)).trans (f 1)
 ·exact ((((Below.refl w.heap.size w).alloc nl _).alloc (by simp) _).alloc (by simp;omega) _).trans (hb.mono (by omega))
theorem zh0 (b off cap:Nat) (zs:List Int) (N:Int) (w:World) (hb:Byt w (some ⟨b,off,none⟩) zs) (hn:zs.length<=1048576) (hp:0<zs.length) (hbl:b<w.heap.size) :
  Calls Tryz.prog 122 #[.agg #[.slice (some ⟨b,off,none⟩) zs.length cap,.int .i64 N]] w fun e w'=>
   ∃ g cp,e=.returned (.agg #[.slice (some ⟨g,0,none⟩) zs.length cp,.int .i64 N])/\Own w' w.heap.size g cp zs/\Below w.heap.size w w':=by
 obtain ⟨i0,hi,hz0,hz1,hz2⟩:=info_parts Tryz.infoU8;have hown0:∀ W:World,W.heap[w.heap.size+1+1]?=some (.cells #[] 5 (0,0))->W.ownsRow (w.heap.size+1+1) 5 1 (.slice (some ⟨w.heap.size+1+1,0,none⟩) 0 0) 0 []:=
  fun W h=>⟨rfl,.inr ⟨_,0,#[],rfl,Nat.le_refl _,h,Nat.le_refl _,by simp,rfl,rfl⟩⟩
 have hnews:∀ W:World,(∀ i,i<zs.length->W.cell? ⟨b,off+i,none⟩=w.cell? ⟨b,off+i,none⟩)->∀ j u,(zs.map (Value.int .u8))[j]?=some u->W.cell? ((⟨b,off,none⟩:Addr).add j)=some u:=by
  intro W hW
  obtain ⟨b',off',he,_,hc⟩:=hb.2 hp
  simp at he
  obtain ⟨rfl,rfl⟩:=he;exact z1o (fun i hi=>(hW i hi).trans (hc i hi))
 go_enter Tryz.func122,Tryz.ntmps122
 go_wp2
 go_region_law (refine step_append_lies _ rfl (.tmp 3) (.tmp 5) 22 rfl (w.heap.size+1+1) 5 i0 (.int .u8 0) 1 1 Tryz.underlying22 hi hz0 hz1 hz2 rfl (by decide) (.slice (some ⟨w.heap.size+1+1,0,none⟩) 0 0) 0 [] (by simp [Act.eval]) (hown0 _ (by exact zn6 w _ _ _)) ⟨b,off,none⟩ zs.length cap (zs.map (Value.int .u8)) (by simp [Act.eval]) (by simp) (hnews _ (fun i hi=>by exact zqr w _ _ _ b (off+i) hbl)) (z19 zs) hp (by unfold maxLen;omega) (by omega) (by exact le3 w _ _ _) _ rfl ?_;intro g cp w1 hown hgrow hat hlt;obtain ⟨a0,a1,a2,a3,f2,f3,hbb⟩:=zpz hgrow rfl;clear hgrow hat)
 all_goals
  have HO:Hid (Own w1 (w.heap.size+1+1) g cp zs):=⟨by simpa using hown,hb.1⟩
  have HBB:Hid (Below w.heap.size w w1):=hbb;clear hown hbb;go_wp2;refine bodyPost_ret (v:=.agg #[.slice (some ⟨g,0,none⟩) zs.length cp,.int .i64 N]) (by simp [results,Tryz.results122,go_sem,a2,a3]) rfl ⟨g,cp,rfl,?_,?_⟩
  ·refine Own.mono (B:=w.heap.size+1+1) ?_ (by omega)
   have hlt2:=HO.out.lt.1
   repeat (refine Own.setCell_other ?_ (by simp;omega) _)
   exact HO.out
  ·repeat (refine Below.setCell ?_ (by first | (simp;done) | (simp;omega)) _)
   exact HBB.out
theorem zgi (w:World) (o1 o2:Obj):Own (((w.alloc o1).alloc o2).alloc (.cells #[] 5)).drew w.heap.size (w.heap.size+1+1) 0 []:=
 ⟨⟨rfl,.inr ⟨_,0,#[],rfl,by omega,zn6 w o1 o2 _,Nat.le_refl _,by simp,rfl,rfl⟩⟩,by simp⟩
theorem zr8 (w:World) (o1 o2 o3:Obj):Below w.heap.size w (((w.alloc o1).alloc o2).alloc o3).drew:=
 ((((Below.refl w.heap.size w).alloc nl o1).alloc (by simp) o2).alloc (by simp;omega) o3).drew
theorem zg9 (a:Option Addr) (cap:Nat) (N:Int) (w:World) :
  Calls Tryz.prog 122 #[.agg #[.slice a 0 cap,.int .i64 N]] w fun e w'=>
   ∃ g cp,e=.returned (.agg #[.slice (some ⟨g,0,none⟩) 0 cp,.int .i64 N])/\Own w' w.heap.size g cp []/\Below w.heap.size w w':=by
 obtain ⟨i0,hi,hz0,hz1,hz2⟩:=info_parts Tryz.infoU8;rcases a with _ | x
 all_goals
  go_enter Tryz.func122,Tryz.ntmps122
  go_wp2
  go_region
  go_wp2
  refine bodyPost_ret (v:=.agg #[.slice (some ⟨w.heap.size+1+1,0,none⟩) 0 0,.int .i64 N]) (by simp [results,Tryz.results122,go_sem]) rfl ⟨w.heap.size+1+1,0,rfl,?_,?_⟩
  ·exact zgi w _ _
  ·exact zr8 w _ _ _
theorem zap (a:Option Addr) (cap:Nat) (zs:List Int) (N:Int) (w:World) (hb:Byt w a zs) (hn:zs.length<=1048576) :
  Calls Tryz.prog 122 #[.agg #[.slice a zs.length cap,.int .i64 N]] w fun e w'=>
   ∃ g cp,e=.returned (.agg #[.slice (some ⟨g,0,none⟩) zs.length cp,.int .i64 N])/\Own w' w.heap.size g cp zs/\Below w.heap.size w w':=by
 by_cases hp:0<zs.length
 ·obtain ⟨b,off,rfl,hbl,hc⟩:=hb.2 hp
  exact zh0 b off cap zs N w hb hn hp hbl
 ·obtain rfl:zs=[]:=List.eq_nil_of_length_eq_zero (by omega)
  exact zg9 a cap N w
theorem z1h (n:Int) (w:World) (h0:0<=n) (h1:n<=4103) :
  Calls Tryz.prog 162 #[.int .i64 n] w fun e w'=>e=.returned (.int .i64 ((n+7) / 8))/\w'=w:=by
 go_enter Tryz.func162,Tryz.ntmps162
 go_wp2
 go_ret;exact ⟨rfl,rfl⟩
theorem zhx (a:Option Addr) (cap:Nat) (zs:List Int) (k V:Nat) (w:World) (hb:Byt w a zs) (he:zs=enc k V) (hv:V<2 ^ k) (hk:k<=4096) :
  Calls Tryz.prog 100 #[.agg #[.slice a zs.length cap,.int .i64 k]] w fun e w'=>
   ∃ a' cp,e=.returned (.slice a' (enc (k+1) (V+2 ^ k)).length cp)/\Mine w' (w.heap.size+1) w'.heap.size a' cp (enc (k+1) (V+2 ^ k))/\Below w.heap.size w w':=by
 have hw:Bw w (w.alloc (Obj.cells #[.slice a zs.length cap,.int .i64 (k:Int)] 106)):=bAw;have hl:zs.length<=1048576:=by rw [he,z0a];omega
 have HE:Hid (zs=enc k V):=he;have HV:Hid (V<2 ^ k):=hv;clear he hv
 go_enter Tryz.func100,Tryz.ntmps100
 go_wp2_with fail
 refine (zap a cap zs (k:Int) _ (hb.below hw nl) hl).mono ?_;rintro e w2 ⟨g2,cp2,rfl,ho2,hb2⟩;have z2:w.heap.size<w2.heap.size:=by have:=hb2.size;simp at this;omega
 have hbb2:=hw.trans (hb2.mono (by simp))
 clear hb2 hw;go_wp2_with fail
 have hE2:OwnV (w2.alloc (Obj.cells #[.slice (some ⟨g2,0,none⟩) zs.length cp2,.int .i64 (k:Int)] 106)) (w.heap.size+1) (.slice (some ⟨g2,0,none⟩) zs.length cp2) (enc k V):=by
  have:=(ho2.alloc (Obj.cells #[.slice (some ⟨g2,0,none⟩) zs.length cp2,.int .i64 (k:Int)] 106)).v;rw [<-HE.out]
  simpa using this
 refine (z20 w2.heap.size (w.heap.size+1) _ k V 1 1 _ (heap_alloc_new w2 _) hE2 HV.out (by simp;omega) (by omega) (by omega) (by omega) (by omega) (by omega)).mono ?_
 rintro e w3 ⟨rfl,v',hR3,hv3,honly3,hrow3⟩;have e1:V+(1:Int).toNat % 2 ^ (1:Int).toNat*2 ^ k=V+2 ^ k:=by simp
 have e2:k+(1:Int).toNat=k+1:=by simp
 rw [e1,e2] at hv3;have hlt2:=ho2.lt
 simp at hlt2
 have hbb3:Bw w w3:=(hbb2.alloc (by omega) _).trans (honly3.below (by simp;omega) (fun kk hk=>by
  rcases hk with hk | hk
  ·omega
  ·simp [Value.ownBlock] at hk;omega))
 obtain ⟨a',cp,rfl,hmine⟩:=hv3.mine;generalize hYS:enc (k+1) (V+2 ^ k)=ys at *;have d0:w3.cell? ⟨w2.heap.size,0,none⟩=some (.slice a' ys.length cp):=zm (j:=0) hR3 rfl;have HYS:Hid (enc (k+1) (V+2 ^ k)=ys):=hYS;have HM:Hid (Mine w3 (w.heap.size+1) w3.heap.size a' cp ys):=hmine;have HBB:Hid (Bw w w3):=hbb3;clear hYS hR3 hv3 honly3 hrow3 hmine hbb3 hE2 hbb2 ho2 hb e1 e2;go_wp2;go_ret;exact ⟨a',cp,by rw [HYS.out];rfl,by rw [HYS.out];exact HM.out,HBB.out⟩
def enB (mode:Nat) (zs:List Int) (m U:Nat):Nat × Nat:=if mode=2 then byL zs m U 8 zs.length else byT zs m U 8 zs.length
def syB (ys:List Int):SyT:=(z0v ys).foldl zq7 ([],0,0)
def sqB (mode:Nat) (ys:List Int):List Int:=enc ((enB mode (syB ys).1 (syB ys).2.1 (syB ys).2.2).1+1) ((enB mode (syB ys).1 (syB ys).2.1 (syB ys).2.2).2+2 ^ (enB mode (syB ys).1 (syB ys).2.1 (syB ys).2.2).1)
theorem zj6 {ys:List Int} {ss:List Sq} (h:ss.map Sq.ct=z0v ys):ze ss=syB ys:=by rw [zok,h];rfl
theorem zcw (ls:List Int):∀ st:SyT,st.2.2<2 ^ st.2.1->(z05 ls st).2.2<2 ^ (z05 ls st).2.1:=by
 induction ls with
 | nil=>intro st h;exact h
 | cons z l ih=>
  intro st h
  exact ih (z44 st z) (z0x _ _ 4 _ h (by have:=Int.emod_lt_of_pos z (show (0:Int)<16 by omega);omega))
theorem zfp (base n:Nat) (st:SyT) (h:st.2.2<2 ^ st.2.1) (h1:1<=n) (h2:n<256):(z12 base n st).2.2<2 ^ (z12 base n st).2.1:=by
 have hc:=z25 h1 h2;refine z0x _ _ (cl n) _ h ?_;rw [Nat.pow_succ] at hc
 omega
theorem znn {ss:List Sq} (h:∀ j,j<ss.length->(ss.getD j dq).n=0\/(3<=(ss.getD j dq).n/\(ss.getD j dq).n<=64/\1<=(ss.getD j dq).d/\(ss.getD j dq).d<=64)) (k:Nat) (hk:k<=ss.length):(ze (ss.take k)).2.2<2 ^ (ze (ss.take k)).2.1:=by
 induction k with
 | zero=>simp [ze]
 | succ k ih=>
  rw [z40 ss k (by omega)]
  have i:=ih (by omega)
  have hn:=h k (by omega)
  unfold z39
  split
  ·exact zcw _ _ i
  ·exact zfp _ _ _ (zfp _ _ _ (zcw _ _ i) (by omega) (by omega)) (by omega) (by omega)
structure SyF (ys:List Int):Prop where
 ht:z0e (syB ys).1 40=true
 h1:1<=(syB ys).1.length
 h2:(syB ys).1.length<=64
 hm:(syB ys).2.1<=256
 hU:(syB ys).2.2<2 ^ (syB ys).2.1
theorem zki {ys:List Int} (hn:ys.length=64) {ss:List Sq} (h:ss.map Sq.ct=z0v ys) (hb:∀ s ∈ ss,∀ z ∈ s.ls,0<=z/\z<=255):(sqn ss).isSome=true/\SyF ys:=by
 obtain ⟨h0,h1,h2,h3,h4⟩:=zha hn h hb;have h5:=znn (SyOk.of h0).nums ss.length nl;rw [List.take_length] at h5;rw [zj6 h] at h1 h2 h3 h4 h5;exact ⟨h0,h1,h2,h3,h4,h5⟩
theorem FnA.sqs {w:World} {B:Nat} {v:Value} {cs:List (List Int × Int × Int)} (h:FnA w B v cs):∃ a c ss,v=.slice a ss.length c/\ss.map Sq.ct=cs/\Sqs w a ss/\Few4 ss/\∀ s ∈ ss,∀ z ∈ s.ls,0<=z/\z<=255:=by
 obtain ⟨ss,h1,h2,h3,h4⟩:=h;obtain ⟨a,c,rfl⟩:=h2.form;exact ⟨a,c,ss,rfl,h1,h2.sqs (fun s hs=>⟨h4.rng s hs,(h3.mine s hs).byt⟩),h4,fun s hs=>(h3.mine s hs).byt.1⟩
theorem zff {zs:List Int} (h:z0e zs 40=true) (h1:1<=zs.length) (h2:zs.length<=64) {m:Nat} (hm:m<=256) (mode U:Nat):(enB mode zs m U).1<=2000:=by
 unfold enB
 split
 ·have:=zj7 h h1 8 zs.length
  show (lpG (tL zs) 8 zs.length).1+hN (tL zs) zs zs.length+m<=_
  omega
 ·have:=zjt h h1 8
  obtain ⟨hn1,hn2,hn3⟩:=zcf h h1;have hf:=(z9f (zn4 h h1) (ts:=zs) (fun k hk=>by rw [hn2];exact z18 h k hk) zs.length nl (fun j hj=>hn3 _ (by omega))).2.1
  show nbG (tS zs) 8 40+9+m+((fpS (tT zs) zs zs.length).2.1+6)<=_
  omega
def z15 (ys:List Int):Bool:=decide (∀ z ∈ ys,z=ys.getD 0 0)
def pkO (x:Int) (ys:List Int):Option (List Int):=
 if ys.length≠64 then none else if x=0 then some (0 :: ys) else if x=1 then (if z15 ys=true then some [1,ys.getD 0 0] else none) else if x=2 then some (2 :: sqB 2 ys) else if x=3 then some (3 :: sqB 3 ys) else none
theorem ze3 (ys:List Int):∀ (n f q:Nat) (cs:List Ct),(∀ c ∈ cs,∀ z ∈ c.1,z ∈ ys)->∀ c ∈ (go ys n f q cs).2,∀ z ∈ c.1,z ∈ ys
 | 0,f,q,cs,h=>h
 | n+1,f,q,cs,h=>by
  simp only [go]
  split
  ·split
   ·refine ze3 ys n _ _ _ (fun c hc=>?_)
    rcases List.mem_append.1 hc with hc | hc
    ·exact h c hc
    ·obtain rfl:c=_:=by simpa using hc
     exact fun z hz=>zds hz
   ·exact ze3 ys n _ _ _ h
  ·exact h
theorem zip (ys:List Int):∀ c ∈ z0v ys,∀ z ∈ c.1,z ∈ ys:=by
 intro c hc
 have hg:=ze3 ys ys.length 0 0 [] (by simp)
 unfold z0v fin at hc
 split at hc
 ·rcases List.mem_append.1 hc with hc | hc
  ·exact hg c hc
  ·obtain rfl:c=_:=by simpa using hc
   exact fun z hz=>zds hz
 ·exact hg c hc
theorem zam {ys:List Int} (hn:ys.length=64) (hr:∀ z ∈ ys,0<=z/\z<=255):SyF ys:=by
 have e:((z0v ys).map (fun c=>(⟨none,0,c.1,c.2.1,c.2.2⟩:Sq))).map Sq.ct=z0v ys:=by
  rw [List.map_map];exact List.map_id _
 refine (zki hn e (fun s hs z hz=>?_)).2
 obtain ⟨c,hc,rfl⟩:=List.mem_map.1 hs;exact hr z (zip ys c hc z hz)
theorem z6x {ys:List Int} (h:SyF ys) (mode:Nat):(sqB mode ys).length<=600:=by
 have:=zff h.ht h.h1 h.h2 h.hm mode (syB ys).2.2;unfold sqB;rw [z0a]
 omega
def pkA (w w':World) (o:Option (List Int)) (e:Ending):Prop:=(∃ a' c',e=.returned (.tuple #[.slice a' (o.getD []).length c',.bool o.isSome])/\Mine w' w.heap.size w'.heap.size a' c' (o.getD []))/\Below w.heap.size w w'
theorem za5 (w:World) (B:Nat) (z:Int) (hB:B<=w.heap.size) (hz:0<=z/\z<=255):OVB (w.alloc (.cells #[.int .u8 z] 5)) B (.slice (some ⟨w.heap.size,0,none⟩) 1 1) [z]:=
 ⟨⟨rfl,.inr ⟨w.heap.size,1,#[.int .u8 z],rfl,hB,heap_alloc_new w _,by simp,by unfold maxLen;omega,rfl,rfl⟩⟩,by intro y hy;simp at hy;subst hy;exact hz⟩
theorem z7q {w W w':World} {g:Nat} {v:Value} {bs:List Int} (hb:Below w.heap.size w W) (hg:w.heap.size<=g) (hown:OVB w' w.heap.size v bs) (hgr:W.grownBy w' (some g)):(∃ a' c',v=.slice a' bs.length c'/\Mine w' w.heap.size w'.heap.size a' c' bs)/\Below w.heap.size w w':=by
 obtain ⟨a',c',e,hm⟩:=hown.mine;have ho:Only (fun _=>False) w w':=Only.grown (Only.ofBelow hb nl) hgr (fun k hk=>.inr (by simp at hk;omega))
 exact ⟨⟨a',c',e,hm⟩,ho.below nl (by simp)⟩
end Go.Proofs.YtjmcjbmjgpponaaGreatDoor
