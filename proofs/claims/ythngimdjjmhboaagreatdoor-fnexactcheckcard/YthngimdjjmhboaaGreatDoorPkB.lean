/-
  The bytes of a pack: the model's and the program's. (Typed by wip/mkpb.py.)
-/
import Derived.Test.YthngimdjjmhboaaGreatDoorElD
import Derived.Test.YthngimdjjmhboaaGreatDoorMpM
import Derived.Test.YthngimdjjmhboaaGreatDoorBApp0
import Derived.Test.YthngimdjjmhboaaGreatDoorBRep
namespace Go.Proofs.YthngimdjjmhboaaGreatDoor
open Go.RowKit
set_option linter.unusedVariables false
set_option linter.unusedSimpArgs false

def pbH (E O:Int) (n:Nat):List Int:=[80,E / 256,E % 256,O / 256,O % 256,n]
def pbI (es:List El):List Int:=es.flatMap (fun e=>[e.n,(e.ls.length:Int)])
def pbB (es:List El):List Int:=es.flatMap (fun e=>e.ls)
def pkL (E O:Int) (es:List El):List Int:=pbH E O es.length++pbI es++pbB es++List.replicate (256 - szP es) 0
theorem pbH_len (E O:Int) (n:Nat):(pbH E O n).length=6:=rfl
theorem pbI_len (es:List El):(pbI es).length=es.length * 2:=by
 induction es with
 | nil=>rfl
 | cons e es ih=>rw [show pbI (e :: es)=[e.n,(e.ls.length:Int)]++pbI es from rfl,List.length_append,ih,List.length_cons];simp;omega
theorem pbB_len (es:List El):(pbB es).length=elets es:=by
 induction es with
 | nil=>rfl
 | cons e es ih=>rw [show pbB (e :: es)=e.ls++pbB es from rfl,List.length_append,ih];rfl
theorem pbI_app (es fs:List El):pbI (es++fs)=pbI es++pbI fs:=by simp [pbI,List.flatMap_append]
theorem pbB_app (es fs:List El):pbB (es++fs)=pbB es++pbB fs:=by simp [pbB,List.flatMap_append]
theorem pbI_succ (es:List El) (k:Nat) (h:k<es.length):pbI (es.take (k+1))=pbI (es.take k)++[(es.getD k de).n,((es.getD k de).ls.length:Int)]:=by
 rw [List.take_succ_eq_append_getElem h,pbI_app]
 simp [pbI,List.getD_eq_getElem?_getD,List.getElem?_eq_getElem h]
theorem pbB_succ (es:List El) (k:Nat) (h:k<es.length):pbB (es.take (k+1))=pbB (es.take k)++(es.getD k de).ls:=by
 rw [List.take_succ_eq_append_getElem h,pbB_app]
 simp [pbB,List.getD_eq_getElem?_getD,List.getElem?_eq_getElem h]
theorem pkL_ct {E O:Int} {es ts:List El} (h:es.map El.ct=ts.map El.ct):pkL E O es=pkL E O ts:=by
 have h1:pbI es=pbI ts:=by
  have:∀ l:List El,pbI l=(l.map El.ct).flatMap (fun p=>[p.1,(p.2.length:Int)]):=fun l=>by simp [pbI,List.flatMap_map,El.ct]
  rw [this,this,h]
 have h2:pbB es=pbB ts:=by
  have:∀ l:List El,pbB l=(l.map El.ct).flatMap (fun p=>p.2):=fun l=>by simp [pbB,List.flatMap_map,El.ct]
  rw [this,this,h]
 have hl:=len_ctE h
 have hz:szP es=szP ts:=by unfold szP;rw [hl,elets_ct _ _ h]
 unfold pkL
 rw [h1,h2,hz,hl]
theorem pkL_len {E O:Int} {es:List El} (h:szP es≤256):(pkL E O es).length=256:=by
 unfold pkL
 simp only [List.length_append,pbH_len,pbI_len,pbB_len,List.length_replicate]
 unfold szP at *
 omega
theorem byt_twoP (w:World) (x y:Int) (hx:0≤x∧x≤255) (hy:0≤y∧y≤255):Byt (w.alloc (.cells #[.int .u8 x,.int .u8 y] 5)) (some ⟨w.heap.size,0,none⟩) [x,y]:=by
 refine ⟨by intro z hz;simp at hz;omega,fun _=>⟨w.heap.size,0,rfl,by simp,fun i hi=>?_⟩⟩
 have:i=0∨i=1:=by simp at hi;omega
 rcases this with rfl | rfl
 ·simp
 ·simp
theorem build6 (w:World) (x0 x1 x2 x3 x4 x5:Int) (h0:0≤x0∧x0≤255) (h1:0≤x1∧x1≤255) (h2:0≤x2∧x2≤255) (h3:0≤x3∧x3≤255) (h4:0≤x4∧x4≤255) (h5:0≤x5∧x5≤255) (B:Nat) (hB:B≤w.heap.size) :
  OVB (w.alloc (.cells #[.int .u8 x0,.int .u8 x1,.int .u8 x2,.int .u8 x3,.int .u8 x4,.int .u8 x5] 5)) B (.slice (some ⟨w.heap.size,0,none⟩) 6 6) [x0,x1,x2,x3,x4,x5]:=by
 refine ⟨⟨rfl,.inr ⟨w.heap.size,6,_,rfl,hB,heap_alloc_new w _,Nat.le_refl _,by unfold maxLen;omega,rfl,rfl⟩⟩,?_⟩
 intro z hz
 simp at hz
 omega
structure PbR (E O:Int) (es:List El):Prop where
 e:0≤E∧E≤60000
 o:0≤O∧O≤60000
 n:es.length≤16
 r:∀ k,k<es.length→(0≤(es.getD k de).n∧(es.getD k de).n<16)∧(es.getD k de).ls.length≤65
 z:szP es≤256
theorem PkR.pb {f:List Int→Option (List Int)} (hf:DecF f) {E O:Int} {es:List El} (h:PkR f E O es) (hl:∀ e ∈ es,e.ls.length≤1048576) (hr:∀ e ∈ es,∀ z ∈ e.ls,0≤z∧z≤255):PbR E O es:=
 ⟨⟨h.e0,h.e1⟩,⟨h.o0,h.o1⟩,h.n,fun k hk=>⟨(h.ap k hk).1.1,apT_short hf h.ap (Nat.le_refl _) hl hr k hk⟩,h.sz⟩

set_option maxRecDepth 20000 in
set_option maxHeartbeats 8000000 in
theorem l7bytes_any (E O:Int) (a:Option Addr) (cap:Nat) (es:List El) (w:World) (hb:Els true w a es) (hp:PbR E O es) :
  Calls Tryz.prog 175 #[.agg #[.int .i64 E,.int .i64 O,.slice a es.length cap]] w fun r w'=>(∃ v,r=.returned v∧OVB w' w.heap.size v (pkL E O es))∧Below w.heap.size w w':=by
 have HB:Hid (Els true w a es):=hb
 have HP:Hid (PbR E O es):=hp
 obtain ⟨he,ho,hn16,-,hz⟩:=id hp
 have HSB:Hid (pkL E O es=(pbH E O es.length++pbI (es.take es.length)++pbB (es.take es.length))++List.replicate (256 - szP es) 0∧pbH E O es.length++pbI (es.take 0)=[80,E / 256,E % 256,O / 256,O % 256,(es.length:Int)]∧szP es=6+2 * es.length+elets es):=⟨by rw [List.take_length];rfl,rfl,rfl⟩
 have HSL:Hid (∀ k,k≤es.length→(pbH E O es.length++pbI (es.take k)).length=6+k * 2):=fun k hk=>by rw [List.length_append,pbI_len,pbH_len,List.length_take,Nat.min_eq_left hk]
 have HSM:Hid (∀ k,k≤es.length→(pbH E O es.length++pbI (es.take es.length)++pbB (es.take k)).length=6+es.length * 2+elets (es.take k)∧elets (es.take k)≤elets es):=fun k hk=>⟨by rw [List.length_append,List.length_append,pbI_len,pbH_len,pbB_len,List.take_length],elets_take_le es k⟩
 have HSS:Hid (∀ k,k<es.length→(pbH E O es.length++pbI (es.take k))++[(es.getD k de).n,((es.getD k de).ls.length:Int)]=pbH E O es.length++pbI (es.take (k+1))):=fun k hk=>by rw [pbI_succ es k hk,List.append_assoc]
 have HST:Hid (∀ k,k<es.length→(pbH E O es.length++pbI (es.take es.length)++pbB (es.take k))++(es.getD k de).ls=pbH E O es.length++pbI (es.take es.length)++pbB (es.take (k+1))):=fun k hk=>by rw [pbB_succ es k hk,List.append_assoc]
 have HS0:Hid (pbB (es.take 0)=[]∧True):=⟨rfl,trivial⟩
 clear hb hp
 generalize hlen:es.length=n at *
 have HL:Hid (es.length=n∧True):=⟨hlen,trivial⟩
 clear hlen
 have hzz:(w.alloc (Obj.cells #[Value.int IntKind.i64 E,Value.int IntKind.i64 O,Value.slice a n cap] 47)).cell? ⟨w.heap.size,2,none⟩=some (.slice a n cap):=by simp
 have HZS:Hid (w.heap.size+1=(w.alloc (Obj.cells #[Value.int IntKind.i64 E,Value.int IntKind.i64 O,Value.slice a n cap] 47)).heap.size∧True):=⟨by simp,trivial⟩
 have HW:Hid (Below w.heap.size w (w.alloc (Obj.cells #[Value.int IntKind.i64 E,Value.int IntKind.i64 O,Value.slice a n cap] 47))):=(Below.refl _ _).alloc (Nat.le_refl _) _
 have he1:0≤E / 256∧E / 256≤255:=by omega
 have he2:0≤E % 256∧E % 256≤255:=by omega
 have ho1:0≤O / 256∧O / 256≤255:=by omega
 have ho2:0≤O % 256∧O % 256≤255:=by omega
 have HOV0:Hid (OVB ((w.alloc (Obj.cells #[Value.int IntKind.i64 E,Value.int IntKind.i64 O,Value.slice a n cap] 47)).alloc (.cells #[.int .u8 80,.int .u8 (E / 256),.int .u8 (E % 256),.int .u8 (O / 256),.int .u8 (O % 256),.int .u8 n] 5)) (w.heap.size+1) (.slice (some ⟨w.heap.size+1,0,none⟩) (pbH E O n++pbI (es.take 0)).length 6) (pbH E O n++pbI (es.take 0))):=by
  have h1:=build6 (w.alloc (Obj.cells #[Value.int IntKind.i64 E,Value.int IntKind.i64 O,Value.slice a n cap] 47)) 80 (E / 256) (E % 256) (O / 256) (O % 256) n (by omega) he1 he2 ho1 ho2 (by omega) (w.heap.size+1) (by rw [HZS.out.1];exact Nat.le_refl _)
  rw [HSB.out.2.1]
  rw [←HZS.out.1] at h1
  exact h1
 go_enter Tryz.func175,Tryz.ntmps175
 go_wp2
 have HB0:Hid (Below (w.heap.size+1) (w.alloc (Obj.cells #[Value.int IntKind.i64 E,Value.int IntKind.i64 O,Value.slice a n cap] 47)) ((w.alloc (Obj.cells #[Value.int IntKind.i64 E,Value.int IntKind.i64 O,Value.slice a n cap] 47)).alloc (.cells #[.int .u8 80,.int .u8 (E / 256),.int .u8 (E % 256),.int .u8 (O / 256),.int .u8 (O % 256),.int .u8 n] 5))):=(Below.refl _ _).alloc (by rw [←HZS.out.1];exact Nat.le_refl _) _
 clear he1 he2 ho1 ho2
 generalize (w.alloc (Obj.cells #[Value.int IntKind.i64 E,Value.int IntKind.i64 O,Value.slice a n cap] 47)).alloc (.cells #[.int .u8 80,.int .u8 (E / 256),.int .u8 (E % 256),.int .u8 (O / 256),.int .u8 (O % 256),.int .u8 n] 5)=W0 at *
 generalize (w.alloc (Obj.cells #[Value.int IntKind.i64 E,Value.int IntKind.i64 O,Value.slice a n cap] 47))=W at *
 go_loopw [3,4] (fun v i wr=>∃ (k:Nat) (va:Option Addr) (vc:Nat),k≤n∧i=.int .i64 k∧v=.slice va (pbH E O n++pbI (es.take k)).length vc∧OVB wr (w.heap.size+1) (.slice va (pbH E O n++pbI (es.take k)).length vc) (pbH E O n++pbI (es.take k))∧Below (w.heap.size+1) W wr) (fun _ i _=>n - (intOf i).toNat)
 case atStart=>exact ⟨0,_,6,Nat.zero_le _,rfl,by rw [HSL.out 0 (Nat.zero_le _)],HOV0.out,HB0.out⟩
 case round=>
  obtain ⟨k,va,vc,hk,rfl,rfl,hov,hbel⟩:=hrel
  have HR:Hid (Below (w.heap.size+1) W wr∧Below w.heap.size w wr∧w.heap.size+1≤wr.heap.size):=⟨hbel,HW.out.trans (hbel.mono (by omega)),by rw [HZS.out.1];exact hbel.size⟩
  have p0:=keep hbel (by omega) hzz
  have HOV:Hid (OVB wr (w.heap.size+1) (.slice va (pbH E O n++pbI (es.take k)).length vc) (pbH E O n++pbI (es.take k))):=hov
  have hsl:=HSL.out k hk
  clear hbel hov HOV0 HB0
  by_cases hlt:k<n
  ·obtain ⟨b,off,rfl,hbw,c00,c01,hby0,hrg0⟩:=HB.out.pen k (by rw [HL.out.1];exact hlt)
   have c0:=keep HR.out.2.1 hbw c00
   have c1:=keep HR.out.2.1 hbw c01
   have hrg:=HP.out.r k (by rw [HL.out.1];exact hlt)
   have HE:Hid (_∧True):=⟨HSS.out k hlt,trivial⟩
   have HLT:Hid (w.heap.size<wr.heap.size∧b<wr.heap.size):=⟨by have:=HR.out.2.2;omega,by have:=HR.out.2.2;omega⟩
   clear hby0 hrg0 HSS HSL HST HSM HSB HS0
   generalize es.getD k de=q at *
   obtain ⟨x,sa,sc,sl⟩:=q
   obtain ⟨⟨x1,x2⟩,y2⟩:=hrg
   simp only at c0 c1 c00 c01 x1 x2 y2 HE
   generalize pbH E O n++pbI (es.take k)=ls at *
   have hsl2:ls.length≤300:=by omega
   clear hsl
   have hwx:IntKind.u8.wrap x=x:=IntWalk.u8_in _ (by omega)
   have hwy:IntKind.u8.wrap (sl.length:Int)=(sl.length:Int):=IntWalk.u8_in _ (by omega)
   have HWX:Hid (IntKind.u8.wrap x=x∧IntKind.u8.wrap (sl.length:Int)=(sl.length:Int)):=⟨hwx,hwy⟩
   clear hwx hwy
   go_wp2
   refine wp_region_cut (S:=fun W=>W.cell? ⟨w.heap.size,2,none⟩=some (.slice (some ⟨b,off,none⟩) n cap)∧W.cell? ⟨b,off+k * 2,none⟩=some (.int .i64 x)∧W.cell? ⟨b,off+k * 2+1,none⟩=some (.slice sa sl.length sc)) 18 (by kernel_rfl) (by kernel_rfl) (by exact ⟨p0,c0,c1⟩) (fun hHeld=>?_)
   refine tk 0 (v:=?_) ?_ ?_
   rotate_left 1
   ·(intro w hSw;(try dsimp only at hSw);go_simp;try (with_reducible rfl))
   try simp only [tkS]
   refine tk 1 (v:=?_) ?_ ?_
   rotate_left 1
   ·(intro w hSw;(try dsimp only at hSw);go_simp;try (with_reducible rfl))
   try simp only [tkS]
   refine tk 2 (v:=?_) ?_ ?_
   rotate_left 1
   ·(intro w hSw;(try dsimp only at hSw);go_simp;try (with_reducible rfl))
   try simp only [tkS]
   refine tk 3 (v:=?_) ?_ ?_
   rotate_left 1
   ·(intro w hSw;(try dsimp only at hSw);go_simp;try (with_reducible rfl))
   try simp only [tkS]
   refine tk 4 (v:=?_) ?_ ?_
   rotate_left 1
   ·(intro w hSw;(try dsimp only at hSw);go_simp;try (with_reducible rfl))
   try simp only [tkS]
   refine tk 5 (v:=?_) ?_ ?_
   rotate_left 1
   ·(intro w hSw;(try dsimp only at hSw);go_simp;try (with_reducible rfl))
   try simp only [tkS]
   refine tk 6 (v:=?_) ?_ ?_
   rotate_left 1
   ·(intro w hSw;(try dsimp only at hSw);go_simp;try (with_reducible rfl))
   try simp only [tkS]
   refine tk 7 (v:=?_) ?_ ?_
   rotate_left 1
   ·(intro w hSw;(try dsimp only at hSw);go_simp;try (with_reducible rfl))
   try simp only [tkS]
   refine tk 8 (v:=?_) ?_ ?_
   rotate_left 1
   ·(intro w hSw;(try dsimp only at hSw);go_simp;try (with_reducible rfl))
   try simp only [tkS]
   refine tk 9 (v:=?_) ?_ ?_
   rotate_left 1
   ·(intro w hSw;(try dsimp only at hSw);go_simp;try (with_reducible rfl))
   try simp only [tkS]
   refine tk 10 (v:=?_) ?_ ?_
   rotate_left 1
   ·(intro w hSw;(try dsimp only at hSw);go_simp;try (with_reducible rfl))
   try simp only [tkS]
   refine tk 11 (v:=?_) ?_ ?_
   rotate_left 1
   ·(intro w hSw;(try dsimp only at hSw);go_simp;try (with_reducible rfl))
   try simp only [tkS]
   refine tk 12 (v:=?_) ?_ ?_
   rotate_left 1
   ·(intro w hSw;(try dsimp only at hSw);go_simp;try (with_reducible rfl))
   try simp only [tkS]
   refine tk 13 (v:=?_) ?_ ?_
   rotate_left 1
   ·(intro w hSw;(try dsimp only at hSw);go_simp;try (with_reducible rfl))
   try simp only [tkS]
   refine tk 14 (v:=?_) ?_ ?_
   rotate_left 1
   ·(intro w hSw;(try dsimp only at hSw);go_simp;try (with_reducible rfl))
   try simp only [tkS]
   refine tk 15 (v:=?_) ?_ ?_
   rotate_left 1
   ·(intro w hSw;(try dsimp only at hSw);go_simp;try (with_reducible rfl))
   try simp only [tkS]
   refine wpAnyH_ready (rs:=[16]) (by kernel_rfl) (by simp) ?_
   refine AllReadyH.cons rfl (fun K hK=>?_) AllReadyH.nil
   go_simp
   refine hK.out _ _ (by exact ⟨keepA _ (by exact HLT.out.1) p0,keepA _ (by exact HLT.out.2) c0,keepA _ (by exact HLT.out.2) c1⟩) (fun hHeld=>?_)
   clear hK K
   try simp only [tkS]
   refine wpAnyH_ready (rs:=[17]) (by kernel_rfl) (by simp) ?_
   refine AllReadyH.cons rfl (fun K hK=>?_) AllReadyH.nil
   refine wanted_step rfl (wp_append_byt (.tmp 32) (.tmp 48) rfl (w.heap.size+1) (.slice va ls.length vc) ls (by simp [Act.eval]) (by exact HOV.out.alloc _) (some ⟨wr.heap.size,0,none⟩) 2 [x,(sl.length:Int)] (by simp [Act.eval]) (by rw [HWX.out.1,HWX.out.2];exact byt_twoP wr x sl.length ⟨x1,by omega⟩ ⟨by omega,by omega⟩) (by simp;omega) (by have:=HLT.out.1;simp;omega) ?_)
   intro v1 w1 hov1 hg1
   have hb1':Below (w.heap.size+1) W w1:=by exact appB_below ((HR.out.1.alloc (by have:=HLT.out.1;omega) _).drew) (by have:=HLT.out.1;simp;omega) (show OVB _ _ _ ls from HOV.out.alloc _) hg1
   obtain ⟨va1,vc1,hv1⟩:=hov1.form
   rw [HE.out.1] at hov1 hv1
   subst hv1
   have HN1:Hid (OVB w1 (w.heap.size+1) (.slice va1 (pbH E O n++pbI (es.take (k+1))).length vc1) (pbH E O n++pbI (es.take (k+1)))∧Below (w.heap.size+1) W w1):=⟨hov1,hb1'⟩
   have hbz:Below w.heap.size w w1:=HW.out.trans (hb1'.mono (by omega))
   refine hK.out _ _ (by exact ⟨keep hb1' (by omega) hzz,keep hbz hbw c00,keep hbz hbw c01⟩) (fun hHeld=>?_)
   clear hK K
   try simp only [tkS]
   refine wpAnyH_done (by kernel_rfl) ?_ _
   simp only [cutQ,List.drop_succ_cons,List.drop_zero]
   clear hHeld hg1 hov1 hb1' hbz
   go_wp2
   go_roundw
   case rel=>exact ⟨k+1,va1,vc1,by omega,by go_num,by first | rfl | simp [Nat.add_assoc],HN1.out.1,HN1.out.2⟩
   case measure=>simp [intOf];omega
  ·have hkn:k=n:=by omega
   subst hkn
   have HOV2:Hid (OVB wr (w.heap.size+1) (.slice va (pbH E O k++pbI (es.take k)++pbB (es.take 0)).length vc) (pbH E O k++pbI (es.take k)++pbB (es.take 0))):=by
    rw [HS0.out.1,List.append_nil]
    exact HOV.out
   have hl0:(pbH E O k++pbI (es.take k)).length=(pbH E O k++pbI (es.take k)++pbB (es.take 0)).length:=by rw [HS0.out.1,List.append_nil]
   rw [hl0]
   clear hl0 HOV HSS HSL hk hlt hsl
   go_wp2
   go_loopw [3,5] (fun v i wr2=>∃ (j:Nat) (vb:Option Addr) (vd:Nat),j≤k∧i=.int .i64 j∧v=.slice vb (pbH E O k++pbI (es.take k)++pbB (es.take j)).length vd∧OVB wr2 (w.heap.size+1) (.slice vb (pbH E O k++pbI (es.take k)++pbB (es.take j)).length vd) (pbH E O k++pbI (es.take k)++pbB (es.take j))∧Below (w.heap.size+1) W wr2) (fun _ i _=>k - (intOf i).toNat)
   case atStart=>exact ⟨0,_,vc,Nat.zero_le _,rfl,rfl,HOV2.out,HR.out.1⟩
   case round=>
    clear HOV2 p0
    obtain ⟨j,vb,vd,hj,rfl,rfl,hov,hbel⟩:=hrel
    have HR2:Hid (Below (w.heap.size+1) W wr∧Below w.heap.size w wr∧w.heap.size+1≤wr.heap.size):=⟨hbel,HW.out.trans (hbel.mono (by omega)),by rw [HZS.out.1];exact hbel.size⟩
    have p0:=keep hbel (by omega) hzz
    have HOV:Hid (OVB wr (w.heap.size+1) (.slice vb (pbH E O k++pbI (es.take k)++pbB (es.take j)).length vd) (pbH E O k++pbI (es.take k)++pbB (es.take j))):=hov
    obtain ⟨hsl,hsm⟩:=HSM.out j hj
    have hszb:elets es≤256:=by have:=HSB.out.2.2;omega
    clear hbel hov
    by_cases hlt:j<k
    ·obtain ⟨b,off,rfl,hbw,c00,c01,hby0,hrg0⟩:=HB.out.pen j (by rw [HL.out.1];exact hlt)
     have c0:=keep HR2.out.2.1 hbw c00
     have c1:=keep HR2.out.2.1 hbw c01
     have hrg:=HP.out.r j (by rw [HL.out.1];exact hlt)
     have HE:Hid (_∧True):=⟨HST.out j hlt,trivial⟩
     have HBY:Hid (Byt wr (es.getD j de).a (es.getD j de).ls∧b<wr.heap.size):=⟨hby0.below HR2.out.2.1 (Nat.le_refl _),by have:=HR2.out.2.2;omega⟩
     clear hby0 hrg0 HST HSM HSB HS0 c00 c01
     generalize es.getD j de=q at *
     obtain ⟨x,sa,sc,sl⟩:=q
     obtain ⟨-,y2⟩:=hrg
     simp only at c0 c1 y2 HE HBY
     generalize pbH E O k++pbI (es.take k)++pbB (es.take j)=ls at *
     have hsl2:ls.length≤400:=by omega
     clear hsl
     go_wp2_with (at_builtin;(refine wpList_append_byt rfl (.tmp 57) (.tmp 63) rfl (w.heap.size+1) (.slice vb ls.length vd) ls (by simp [Act.eval]) (HOV.out) sa sc sl (by simp [Act.eval]) (HBY.out.1) (by omega) (by have:=HR2.out.2.2;first | exact this | (simp;omega)) ?_;intro v1 w1 hov1 hg1;have hb1':Below (w.heap.size+1) W w1:=appB_below (HR2.out.1) (by have:=HR2.out.2.2;first | exact this | (simp;omega)) (show OVB _ _ _ ls from HOV.out) hg1;obtain ⟨va1,vc1,hv1⟩:=hov1.form;rw [HE.out.1] at hov1 hv1;subst hv1;have HN1:Hid (OVB w1 (w.heap.size+1) (.slice va1 (pbH E O k++pbI (es.take k)++pbB (es.take (j+1))).length vc1) (pbH E O k++pbI (es.take k)++pbB (es.take (j+1)))∧Below (w.heap.size+1) W w1):=⟨hov1,hb1'⟩;clear hov1 hg1 hb1'))
     go_wp2
     go_roundw
     case rel=>exact ⟨j+1,va1,vc1,by omega,by go_num,by first | rfl | simp [Nat.add_assoc],HN1.out.1,HN1.out.2⟩
     case measure=>simp [intOf];omega
    ·have hjk:j=k:=by omega
     subst hjk
     have hpz:=HP.out.z
     have hsub:(256:Int) - ((pbH E O j++pbI (es.take j)++pbB (es.take j)).length:Int)=((256 - szP es:Nat):Int):=by
      have h1:=HSB.out.2.2
      have h2:elets (es.take j)=elets es:=by rw [←HL.out.1,List.take_length]
      omega
     have HZ:Hid (pkL E O es=(pbH E O j++pbI (es.take j)++pbB (es.take j))++List.replicate (256 - szP es) 0∧True):=⟨HSB.out.1,trivial⟩
     clear HSB HST HSM HS0 hsm
     generalize pbH E O j++pbI (es.take j)++pbB (es.take j)=ls at *
     have hsl2:ls.length≤400∧0<ls.length∧ls.length+(256 - szP es)≤1000000:=by omega
     have hsub2:(256:Int) - (ls.length:Int)=((256 - szP es:Nat):Int):=hsub
     clear hsl hsub hpz
     generalize 256 - szP es=m at *
     go_wp2_with (at_builtin;refine wpList_append_zerB rfl _ _ rfl (w.heap.size+1) (.slice vb ls.length vd) ls (by simp [Act.eval]) HOV.out m (by first | (simp [Act.eval];done) | (simp [Act.eval];exact hsub2)) hsl2.2.1 hsl2.2.2 HR2.out.2.2 ?_;intro v1 w1 hov1 hg1)
     have HF:Hid (OVB w1 w.heap.size v1 (pkL E O es)∧Below w.heap.size w w1):=⟨by rw [HZ.out.1];exact hov1.weak (by omega),appB_below HR2.out.2.1 (by have:=HR2.out.2.2;omega) (HOV.out.weak (by omega)) hg1⟩
     clear hov1 hg1
     go_ret
     exact ⟨⟨_,rfl,HF.out.1⟩,HF.out.2⟩
end Go.Proofs.YthngimdjjmhboaaGreatDoor
