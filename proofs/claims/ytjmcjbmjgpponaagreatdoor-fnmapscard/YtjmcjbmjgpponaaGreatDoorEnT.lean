import Derived.Test.YtjmcjbmjgpponaaGreatDoorPour
set_option maxRecDepth 20000
set_option maxHeartbeats 16000000
namespace Go.Proofs.YtjmcjbmjgpponaaGreatDoor
open Go.RowKit
set_option linter.unusedVariables false
def KpQ (R Q:Nat) (w w':World):Prop:=∀ g cur T,w.heap[g]?=some (.cells cur T (0,0))->T≠5->g≠R->g≠Q->w'.heap[g]?=some (.cells cur T (0,0))
structure zrf (w wr:World) (R B Q:Nat) (b:Option Addr) (L cb n V m U p0 j:Nat) (u:Value):Prop where
 hR:wr.heap[R]?=some (.cells #[u,.int .i64 ((n+j:Nat):Int),.int .i64 4096] 154 (0,0))
 hv:OwnV wr B u (enc (n+j) (V+(U % 2 ^ j)*2 ^ n))
 hQ:wr.heap[Q]?=some (.cells #[.slice b L cb,.int .i64 m,.int .i64 ((p0+j:Nat):Int)] 188 (0,0))
 bel:Below B w wr
 kp:KpQ R Q w wr
set_option linter.unusedSimpArgs false
structure zr0 (w:World):Prop where
 sC:zqv w
 sS:Sent w 18
 ov:∃ pe,w.cell? ⟨17,0,none⟩=some (.iface 303 (.pointer (some pe)))
 hG:18<w.heap.size/\17<w.heap.size
structure InE (w0:World) (B:Nat) (a:Option Addr) (zs:List Int) (b:Option Addr) (ys:List Int) (m U:Nat):Prop where
 hs:Ins w0 a zs
 hb:Byt w0 b ys
 hB:w0.heap.size=B
 hy:ys=enc m U
 hU:U<2 ^ m
 ht:z0e zs 40=true
 h1:1<=zs.length
 h2:zs.length<=64
 hm:m<=500
 sE:zr0 w0
theorem zph (SP zs:List Int) (k:Nat) (hk:k<64):(((tb SP zs k++zer (192-k*3)).set (k*3) (SP.getD k 0)).set (k*3+1) ((wd ((nx SP zs k).getD (SP.getD k 0).toNat 0).toNat:Nat):Int)).set (k*3+2) ((((nx SP zs k).getD (SP.getD k 0).toNat 0).toNat*2 ^ wd ((nx SP zs k).getD (SP.getD k 0).toNat 0).toNat:Nat)-64)=tb SP zs (k+1)++zer (192-(k+1)*3):=by
 have hl:=z4c SP zs k;rw [tb,show 192-k*3=(192-(k+1)*3)+3 from by omega]
 generalize (192-(k+1)*3)=m;rw [show zer (m+3)=0 :: 0 :: 0 :: zer m from rfl]
 rw [List.set_append_right _ _ (by omega),List.set_append_right _ _ (by omega),List.set_append_right _ _ (by omega),hl,Nat.sub_self,Nat.add_sub_cancel_left,Nat.add_sub_cancel_left,List.append_assoc]
 rfl
theorem z9h {w:World} {g:Nat} {T:TypeId} {l:List Int} (i:Nat) (v:Int) (h:w.heap[g]?=some (.cells (cel l) T (0,0))):(w.setCell ⟨g,i,none⟩ (.int .i64 v)).heap[g]?=some (.cells (cel (l.set i v)) T (0,0)):=by
 rw [heap_setCell_same _ _ i _ _ _ h]
 simp [cel,List.map_set]
set_option maxRecDepth 100000 in
theorem zf4 (a:Option Addr) (cap:Nat) (zs:List Int) (w:World) (hb:Ins w a zs) (hn:zk zs=true) :
  Calls Tryz.prog 161 #[.slice a zs.length cap] w fun e w'=>∃ g,e=.returned (.pointer (some ⟨g,0,none⟩))/\w.heap.size<=g/\w'.heap[g]?=some (.cells ((tb (pl (fl 0 zs) (plc 64)) zs 64).map (Value.int .i64)).toArray 245 (0,0))/\Below w.heap.size w w':=by
 have hbd:=z0p hn;have HSY:Hid (∀ p,p<64->∃ s:Nat,(pl (fl 0 zs) (plc 64)).getD p 0=(s:Int)/\s<zs.length/\0<zs.getD s 0/\zs.getD s 0<=64):=fun p hp=>z4m hn p hp
 have HSL:Hid ((pl (fl 0 zs) (plc 64)).length=64):=z1r _ _;have HN:Hid (zk zs=true):=hn;clear hn;have HB:Hid (Ins w a zs):=hb;obtain ⟨b1,o1,rfl,hb1,hcz⟩:=hb.len_pos 0 (by omega)
 have HCZ:Hid (∀ i,i<zs.length->w.cell? ⟨b1,o1+i,none⟩=some (.int .i64 (zs.getD i 0))):=hcz;clear hb hcz;generalize hL:zs.length=L at *;have HL:Hid (zs.length=L):=hL;clear hL
 go_enter Tryz.func161,Tryz.ntmps161
 have hzt:=zp6;have hzn:=zp0;generalize hZT:cel (zer 192)=ZT at *;generalize hZN:cel (zer 80)=ZN at *;have HZT:Hid (cel (zer 192)=ZT):=hZT;have HZN:Hid (cel (zer 80)=ZN):=hZN;have HG1:Hid (((w.alloc (Obj.cells ZT 245)).alloc (Obj.cells ZN 246)).heap[w.heap.size+1]?=some (.cells ((zer 80).map (Value.int .i64)).toArray 246 (0,0))):=by
  have:=heap_alloc_new (w.alloc (Obj.cells ZT 245)) (Obj.cells ZN 246);rw [World.size_alloc,<-hZN] at this;rw [<-hZN];exact this
 have HG0:Hid (((w.alloc (Obj.cells ZT 245)).alloc (Obj.cells ZN 246)).heap[w.heap.size]?=some (.cells ZT 245 (0,0))):=(Below.heap_alloc _ _ _ (by simp)).trans (heap_alloc_new w _)
 have HBW:Hid (Below w.heap.size w ((w.alloc (Obj.cells ZT 245)).alloc (Obj.cells ZN 246))):=((Below.refl _ _).alloc nl _).alloc (by simp) _
 have HPS:Hid (0<(zs.map (Value.int .i64)).length->(some (⟨w.heap.size+1,0,none⟩:Addr))=some ⟨w.heap.size+1,0,none⟩/\∃ ad,(some (⟨b1,o1,none⟩:Addr))=some ad/\∀ j v,(zs.map (Value.int .i64))[j]?=some v->((w.alloc (Obj.cells ZT 245)).alloc (Obj.cells ZN 246)).cell? (ad.add j)=some v):=by
  intro _
  refine ⟨rfl,⟨b1,o1,none⟩,rfl,?_⟩
  intro j u hu
  rw [List.getElem?_map] at hu
  cases hq:zs[j]? with
  | none=>rw [hq] at hu;simp at hu
  | some z=>
   rw [hq] at hu
   simp at hu
   subst hu;have hj:j<zs.length:=(List.getElem?_eq_some_iff.1 hq).1;have:=HCZ.out j (by rw [<-HL.out];exact hj)
   rw [List.getD_eq_getElem?_getD,hq] at this;have e:(⟨b1,o1,none⟩:Addr).add j=⟨b1,o1+j,none⟩:=by unfold Addr.add;split <;> simp_all
   rw [e];exact keep HBW.out hb1 this
 have HLN:Hid ((zs.map (Value.int .i64)).length=Nat.min L 80):=by unfold Hid;rw [List.length_map,HL.out];exact (Nat.min_eq_left hbd.2).symm
 have HFT:Hid (0+(zs.map (Value.int .i64)).length<=((zer 80).map (Value.int .i64)).length):=by unfold Hid;rw [List.length_map,HL.out,List.length_map];simp [zer];omega
 clear hZT hZN;go_wp2_with (refine wpList_copy_splice rfl (.tmp 9) (.tmp 10) 57 57 rfl 3 Tryz.underlying57 (by kernel_rfl) (some ⟨w.heap.size+1,0,none⟩) (some ⟨b1,o1,none⟩) 80 80 L cap rfl rfl (w.heap.size+1) 0 _ 246 HG1.out _ HLN.out HPS.out HFT.out (by intro v hv;simp at hv;obtain ⟨z,_,rfl⟩:=hv;rfl) (w.heap.size+1) _ (Below.refl _ _) nl ?_;intro w3 hg3 hb3)
 have HSP:=callsIn_wide.1 (zev 3 (by omega) (some ⟨b1,o1,none⟩) cap zs w3 (HB.out.below (HBW.out.trans (hb3.mono (by omega))) nl) HN.out)
 rw [HL.out] at HSP;generalize hSPE:pl (fl 0 zs) (plc 64)=SP at *;have HSPE:Hid (pl (fl 0 zs) (plc 64)=SP):=hSPE;clear hSPE;have HB3:Hid (Below w.heap.size w w3):=HBW.out.trans (hb3.mono (by omega))
 have HT3:Hid (w3.heap[w.heap.size]?=some (.cells (cel (tb SP zs 0++zer (192-0*3))) 245 (0,0))):=by
  have:=(hb3.block w.heap.size (by omega)).trans HG0.out
  rw [<-HZT.out] at this;exact this
 have HN3:Hid (w3.heap[w.heap.size+1]?=some (.cells (cel (nx SP zs 0++zer (80-L))) 246 (0,0))):=by
  have:=hg3.out;rw [show splice ((zer 80).map (Value.int .i64)) 0 (zs.map (Value.int .i64))=(nx SP zs 0++zer (80-L)).map (Value.int .i64) from by
   exact zh9 zs L HL.out] at this
  exact this
 have hs3:=HB3.out.size;have hw3:w.heap.size+1<w3.heap.size:=(Array.getElem?_eq_some_iff.1 HN3.out).1;clear hg3 hb3 HBW HG0 HG1 HPS HLN HFT HZT HZN hzt hzn;generalize hG:w.heap.size=G at *;have HG:Hid (w.heap.size=G):=hG;clear hG;refine HSP.mono ?_;clear HSP;rintro e w4 ⟨rfl,hb4⟩;have HB4:Hid (Below G w w4):=HB3.out.trans (hb4.mono hs3);have HT4:Hid (w4.heap[G]?=some (.cells (cel (tb SP zs 0++zer (192-0*3))) 245 (0,0))):=(hb4.block G (by omega)).trans HT3.out
 have HN4:Hid (w4.heap[G+1]?=some (.cells (cel (nx SP zs 0++zer (80-L))) 246 (0,0))):=(hb4.block (G+1) hw3).trans HN3.out;have HE:Hid (∀ k s:Nat,k<64->SP.getD k 0=(s:Int)->((SP.map (Value.int .i64)).toArray)[k]?=some (.int .i64 s)):=by
  intro k s hk hs
  have:k<SP.length:=by rw [HSL.out];exact hk
  rw [List.getD_eq_getElem?_getD,List.getElem?_eq_getElem this] at hs
  simp at hs
  simp [List.getElem?_eq_getElem this,hs]
 have HES:Hid (((SP.map (Value.int .i64)).toArray).size=64):=by unfold Hid;simp [HSL.out]
 generalize (SP.map (Value.int .i64)).toArray=E at *;clear hb4 HB3 HT3 HN3 hs3 hw3;go_wp2_with fail
 go_loopw [14] (fun i wr=>∃ k:Nat,k<=64/\i=.int .i64 k/\wr.heap[G]?=some (.cells (cel (tb SP zs k++zer (192-k*3))) 245 (0,0))/\wr.heap[G+1]?=some (.cells (cel (nx SP zs k++zer (80-L))) 246 (0,0))/\Below G w wr) (fun i _=>64-(intOf i).toNat)
 case atStart=>exact ⟨0,Nat.zero_le _,rfl,HT4.out,HN4.out,HB4.out⟩
 case round=>
  obtain ⟨k,hk,rfl,ht,hnx,hbel⟩:=hrel
  by_cases hlt:k<64
  ·obtain ⟨s,hs,hsl,hzp,hz64⟩:=HSY.out k hlt
   have hbn:=z69 SP zs k s;obtain ⟨X,hX⟩:=Int.eq_ofNat_of_zero_le (show 0<=(nx SP zs k).getD s 0 by omega)
   have hX1:1<=X:=by omega
   have hX2:X<=127:=by omega
   have hEk:=HE.out k s hlt hs;have hix:=ziz E k s hlt hEk;clear hEk;have hnl:=z94 SP zs k;rw [HL.out] at hnl;have q1:wr.cell? ⟨G+1,s,none⟩=some (.int .i64 X):=by
    have:=z1s (tb:=nx SP zs k++zer (80-L)) hnx s (by rw [List.length_append,hnl];omega)
    rw [List.getD_eq_getElem?_getD,List.getElem?_append_left (by omega),<-List.getD_eq_getElem?_getD,hX] at this
    exact this
   have qf:=frozen_of_row wr _ s _ _ hnx;have HT:Hid _:=ht;have HNX:Hid _:=hnx;have HBL:Hid _:=hbel;have HS:Hid (SP.getD k 0=(s:Int)):=hs;have HXE:Hid ((nx SP zs k).getD s 0=(X:Int)):=hX;have HX12:Hid (1<=X/\X<=127):=⟨hX1,hX2⟩;have hs80:(s:Int)<80:=by omega
   have hxi:(X:Int)<=127:=by omega
   have HSL2:Hid (s<L/\True):=⟨hsl,trivial⟩;clear ht hnx hbel hs hX hbn hnl hzp hz64 hX1 hX2 hsl;have HTL:Hid ((tb SP zs k++zer (192-k*3)).length=192):=by unfold Hid;rw [List.length_append,z4c];simp [zer];omega
   have t0:=z1s (tb:=tb SP zs k++zer (192-k*3)) HT.out (k*3) (by rw [HTL.out];omega)
   have t1:=z1s (tb:=tb SP zs k++zer (192-k*3)) HT.out (k*3+1) (by rw [HTL.out];omega)
   have t2:=z1s (tb:=tb SP zs k++zer (192-k*3)) HT.out (k*3+2) (by rw [HTL.out];omega)
   have f0:=frozen_of_row wr _ (k*3) _ _ HT.out;have f1:=frozen_of_row wr _ (k*3+1) _ _ HT.out;have f2:=frozen_of_row wr _ (k*3+2) _ _ HT.out;generalize (tb SP zs k++zer (192-k*3)).getD (k*3) 0=y0 at *;generalize (tb SP zs k++zer (192-k*3)).getD (k*3+1) 0=y1 at *;generalize (tb SP zs k++zer (192-k*3)).getD (k*3+2) 0=y2 at *;have HWB:Hid (bl X+wd X=7):=zqt X (by have:=HX12.out;omega) HX12.out.1
   have HPK:Hid (_/\_/\_/\_/\_/\_/\_/\_/\_):=⟨HT.out,HNX.out,HTL.out,HS.out,HXE.out,HWB.out,HSPE.out,HL.out,HG.out⟩;clear HTL HXE HNX HT HS HWB HSL HL HSPE HG HB4 HT4 HN4 HE HES HCZ HB HSY HN;go_wp2_with fail
   refine (zfd X _ (by have:=HX12.out;omega)).mono ?_
   rintro e wq ⟨rfl,rfl⟩;obtain ⟨hB1,hB7⟩:1<=(bl X:Int)/\(bl X:Int)<=7:=by
    have h1:=HPK.out.2.2.2.2.2.1;have hBw:=(z68 HX12.out.1 HX12.out.2).1
    omega
   generalize hBX:(bl X:Int)=B at *;have HBX:Hid ((bl X:Int)=B/\True):=⟨hBX,trivial⟩;clear hBX;go_wp2;go_roundw
   case rel=>
    obtain ⟨pT,pN,pL,pS,pX,pW,pE,pl,pG⟩:=HPK.out;have hW7:(7-B).toNat=wd X:=by have:=HBX.out.1;omega
    have hwr:=z68 HX12.out.1 HX12.out.2;have hv1:(7-B)=((wd X:Nat):Int):=by have:=HBX.out.1;omega
    have hv2:wrap64 (wrap64 ((X:Int)*2 ^ (7-B).toNat)-64)=((X*2 ^ wd X:Nat):Int)-64:=by
     rw [hW7,zi5 X (wd X) HX12.out.2 hwr.1];exact IntWalk.wrap64_in _ (by omega)
    rw [hv2,hv1];refine ⟨k+1,by omega,by go_num,?_,?_,?_⟩
    ·have h0:=(Below.heap_setCell wr ⟨G+1,s,none⟩ (.int .i64 ((X:Int)+1)) G (by simp)).trans pT
     have h3:=z9h (k*3+2) (((X*2 ^ wd X:Nat):Int)-64) (z9h (k*3+1) ((wd X:Nat):Int) (z9h (k*3) (s:Int) h0));have hset:=zph SP zs k (by omega:k<64)
     rw [pS,Int.toNat_natCast,pX,Int.toNat_natCast] at hset;rw [hset] at h3;exact h3
    ·have h0:=z9h s ((X:Int)+1) pN
     have hsl:s<(nx SP zs k).length:=by
      have:=z94 SP zs k;rw [this,pl];exact HSL2.out.1
     rw [List.set_append_left _ _ hsl,show (nx SP zs k).set s ((X:Int)+1)=nx SP zs (k+1) from by rw [nx,pS,Int.toNat_natCast,pX]] at h0
     exact (Below.heap_setCell _ _ _ _ (by simp)).trans ((Below.heap_setCell _ _ _ _ (by simp)).trans ((Below.heap_setCell _ _ _ _ (by simp)).trans h0))
    ·exact (((HBL.out.setCell (by simp) _).setCell (by simp) _).setCell (by simp) _).setCell (by simp) _
   case measure=>simp [intOf];omega
  ·have HK:Hid (k=64/\True):=⟨by omega,trivial⟩
   have HFI:Hid (wr.heap[G]?=some (.cells (cel (tb SP zs k)) 245 (0,0))/\Below G w wr):=by
    refine ⟨?_,hbel⟩;rw [ht,show 192-k*3=0 from by omega,show zer 0=[] from rfl,List.append_nil]
   have HPK:Hid (_/\_):=⟨HSPE.out,HG.out⟩;clear ht hnx hbel HSL HL HSPE HG HB4 HT4 HN4 HE HES HCZ HB HSY HN;go_wp2;go_ret;refine ⟨G,rfl,by rw [HPK.out.2];exact Nat.le_refl _,?_,by rw [HPK.out.2];exact HFI.out.2⟩
   rw [HPK.out.1,<-HK.out.1];exact HFI.out.1
theorem zjt {zs:List Int} (h:z0e zs 40=true) (h1:1<=zs.length) (n0:Nat):nbG (tS zs) n0 40<=n0+280:=by
 have:=zj1 (zcf h h1).1 n0 40
 omega
end Go.Proofs.YtjmcjbmjgpponaaGreatDoor
