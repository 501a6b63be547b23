import Derived.Laws.Bits64b
import Derived.Lib.MakeNoZero
import Derived.Test.YtjmcjbmjgpponaaGreatDoorOsN
set_option maxRecDepth 20000
set_option maxHeartbeats 16000000
namespace Go.Proofs.YtjmcjbmjgpponaaGreatDoor
open Go.RowKit
set_option linter.unusedVariables false
set_option linter.unusedSimpArgs false
theorem zf2 (k:Nat) (hk:k<=64) (w:World) :
  Calls Tryz.prog 164 #[.int .u64 k,.int .u64 64] w fun e w'=>e=.returned (.tuple #[.int .u64 0,.int .u64 ((k*64:Nat):Int)])/\w'=w:=by
 have e1:bits .and .u64 (k:Int) 4294967295=(k:Int):=by
  have h:=bits_and_u64_nat k 4294967295 (by omega) (by omega)
  have e:k &&& 4294967295=k % 4294967296:=Nat.and_two_pow_sub_one_eq_mod k 32;rw [e,Nat.mod_eq_of_lt (by omega)] at h
  exact h
 have e2:bits .and .u64 64 4294967295=64:=by rfl
 have e3:(k:Int) / 4294967296=0:=by omega
 have e4:IntKind.u64.wrap ((k:Int)*64)=(k:Int)*64:=by rw [IntKind.wrap_u64];omega
 have e5:((k:Int)*64) / 4294967296=0:=by omega
 have e6:bits .and .u64 0 4294967295=0:=by rfl
 go_enter Tryz.func164,Tryz.ntmps164
 go_wp2
 go_ret2
 exact ⟨by simp [e1,e2,e3,e4,e5,e6],rfl⟩
theorem zi1 (k:Nat) (hk:k<=64) (w:World) :
  Calls Tryz.prog 136 #[.int .u64 k,.int .u64 64] w fun e w'=>e=.returned (.tuple #[.int .u64 0,.int .u64 ((k*64:Nat):Int)])/\w'=w:=by
 have c64:=zf2 k hk w
 go_enter Tryz.func136,Tryz.ntmps136
 go_wp2_with fail
 refine c64.mono ?_;rintro e w' ⟨rfl,rfl⟩;go_wp2
 go_ret2
 exact ⟨rfl,rfl⟩
def dbl (zs:List Int):Nat->List Int
 | 0=>zs
 | i+1=>dbl zs i++dbl zs i
theorem z9x (zs:List Int):∀ i,(dbl zs i).length=zs.length*2 ^ i
 | 0=>by simp [dbl]
 | i+1=>by
  rw [dbl,List.length_append,z9x zs i,Nat.pow_succ,<-Nat.mul_assoc,Nat.mul_two]
theorem zg0 (zs:List Int):∀ i,∀ z ∈ dbl zs i,z ∈ zs
 | 0,z,h=>h
 | i+1,z,h=>by
  simp only [dbl,List.mem_append,or_self] at h
  exact zg0 zs i z h
def Buf8 (w wr:World) (g M:Nat) (Z:List Int):Prop:=
 ∃ cur:List Value,wr.heap[g]?=some (.cells cur.toArray 5 (0,0))/\M<=cur.length/\cur.take Z.length=Z.map (Value.int .u8)/\Z.length<=M/\Below g w wr
theorem z7c {cur:List Value} {Z Y:List Int} (h:cur.take Z.length=Z.map (Value.int .u8)) (hl:Z.length+Y.length<=cur.length) :
  (splice cur Z.length (Y.map (Value.int .u8))).take (Z++Y).length=(Z++Y).map (Value.int .u8)/\(splice cur Z.length (Y.map (Value.int .u8))).length=cur.length:=by
 unfold splice;rw [h]
 constructor
 ·rw [<-List.append_assoc,<-List.map_append]
  rw [List.take_left' (by simp)]
 ·simp
  omega
theorem Buf8.cells {w wr:World} {g M:Nat} {Z:List Int} (h:Buf8 w wr g M Z):∀ i,i<Z.length->wr.cell? ⟨g,i,none⟩=some (.int .u8 (Z.getD i 0)):=by
 obtain ⟨cur,hg,hM,ht,hl,_⟩:=h
 intro i hi
 have h1:cur[i]?=some (.int .u8 (Z.getD i 0)):=by
  have:=congrArg (·[i]?) ht
  simp only [List.getElem?_take,if_pos hi,List.getElem?_map] at this
  rw [this]
  simp [List.getD,List.getElem?_eq_getElem hi]
 simp [World.cell?,hg,h1]
theorem Buf8.byt {w wr:World} {g M:Nat} {Z:List Int} (h:Buf8 w wr g M Z) (hr:∀ z ∈ Z,0<=z/\z<=255):Byt wr (some ⟨g,0,none⟩) Z:=by
 refine ⟨hr,fun hp=>⟨g,0,rfl,?_,fun i hi=>by rw [Nat.zero_add];exact h.cells i hi⟩⟩
 obtain ⟨cur,hg,_⟩:=h;exact (Array.getElem?_eq_some_iff.1 hg).1
theorem zly {k L N i:Nat} (hi:i<=6) (hL:L=k*2 ^ i) (hN:k*64=N) (h1:1<=k) (hlt:L<N):i<6/\L+L<=N/\1<=L:=by
 obtain rfl | rfl | rfl | rfl | rfl | rfl | rfl:i=0\/i=1\/i=2\/i=3\/i=4\/i=5\/i=6:=by omega
 all_goals
  simp at hL
  omega
theorem zoj {k L N i:Nat} (hi:i<=6) (hL:L=k*2 ^ i) (hN:k*64=N) (h1:1<=k) (hlt:¬L<N):i=6:=by
 obtain rfl | rfl | rfl | rfl | rfl | rfl | rfl:i=0\/i=1\/i=2\/i=3\/i=4\/i=5\/i=6:=by omega
 all_goals
  simp at hL
  omega
theorem zhe (a:Option Addr) (cap:Nat) (zs:List Int) (w:World) (hb:Byt w a zs) (h1:1<=zs.length) (h2:zs.length<=64) :
  Calls Tryz.prog 113 #[.slice a zs.length cap,.int .i64 64] w fun e w'=>(∃ a' c,e=.returned (.slice a' (dbl zs 6).length c)/\Byt w' a' (dbl zs 6))/\Below w.heap.size w w':=by
 obtain ⟨i0,hi,hz0,hz1,hz2⟩:=info_parts Tryz.infoU8;have hsz:(Tryz.prog.info? 5).map (·.size)=some 1:=by rw [hi];simp [hz1]
 have HONE:Hid (∀ zs:List Int,∀ u ∈ zs.map (Value.int .u8),u.oneCell'=true):=z19;have HR:Hid (∀ z ∈ zs,0<=z/\z<=255):=hb.1;have HSRC:Hid (∀ W:World,(∀ b o,b<w.heap.size->W.cell? ⟨b,o,none⟩=w.cell? ⟨b,o,none⟩)->0<(zs.map (Value.int .u8)).length->∃ ad,a=some ad/\∀ j u,(zs.map (Value.int .u8))[j]?=some u->W.cell? (ad.add j)=some u):=by
  intro W hW hp
  obtain ⟨b,off,rfl,hbl,hc⟩:=hb.2 (by simpa using hp)
  exact ⟨_,rfl,z1o (fun i hi=>(hW b (off+i) hbl).trans (hc i hi))⟩
 clear hb;have HM:=zi1 zs.length h2 w;have hdl:=z9x zs 6;generalize hlen:zs.length=k at *;have HL:Hid (zs.length=k):=hlen;clear hlen;obtain ⟨N,hN⟩:∃ N,k*64=N:=⟨_,rfl⟩;rw [hN] at HM;have hN0:64<=N:=by omega
 have hN1:N<=4096:=by omega
 have HN:Hid (k*64=N/\(dbl zs 6).length=N):=⟨hN,by rw [hdl,<-hN]⟩
 have hkN:k<=N:=by omega
 rw [HN.out.2];clear hdl hN;have u1:IntKind.u64.wrap (k:Int)=k:=by rw [IntKind.wrap_u64];omega
 have u2:IntKind.i64.wrap (N:Int)=N:=by rw [IntKind.wrap_i64];omega
 have n1:¬(9223372036854775807:Int)<(N:Int):=by omega
 have n2:¬((k:Int)=0):=by omega
 have n3:¬(8192:Int)<(N:Int):=by omega
 obtain ⟨cs,hrunM,hle,_⟩:=Lib.run_makeNoZero (P:=Tryz.prog) w #[3] 22 5 Tryz.underlying22 N (by omega)
 have hcall:(callFunc 137 #[.int .i64 (N:Int)]).run Tryz.prog w=.ok (.value (.slice (some ⟨w.heap.size,0,none⟩) N cs.size)) ((w.alloc (.cells cs 5)).drewN 2):=by
  rw [run_callFunc_extern Tryz.func137 (by kernel_rfl) (by kernel_rfl) (by kernel_rfl) (e:=Extern.BytealgMakeNoZero.makeNoZero #[3] #[22]) (by kernel_rfl),hrunM]
  rfl
 clear hrunM
 go_enter Tryz.func113,Tryz.ntmps113
 go_wp2_with fail
 refine HM.mono ?_;clear HM;rintro e w' ⟨rfl,hw⟩;rw [hw];clear hw;have HBLK:Hid (((w.alloc (.cells cs 5)).drewN 2).heap[w.heap.size]?=some (.cells cs.toList.toArray 5 (0,0))):=by
  show (w.alloc (.cells cs 5)).heap[w.heap.size]?=_
  rw [heap_alloc_new w _]
 have HBEL:Hid (Bw w ((w.alloc (.cells cs 5)).drewN 2)):=by
  have h:Bw w (w.alloc (.cells cs 5)):=bAw;exact ⟨h.os,h.tape,h.output,h.size,h.block⟩
 go_wp2_with (have _t:=HBLK;refine wpList_copy_splice rfl (.tmp 58) (.tmp 59) 22 22 rfl 5 Tryz.underlying22 hsz (some ⟨w.heap.size,0,none⟩) a N N k cap rfl rfl w.heap.size 0 cs.toList 5 HBLK.out (zs.map (Value.int .u8)) (by rw [List.length_map,HL.out];exact (Nat.min_eq_left hkN).symm) (fun hp=>⟨rfl,HSRC.out _ (fun b o hb=>HBEL.out.cell (p:=⟨b,o,none⟩) hb) hp⟩) (by rw [List.length_map,HL.out,Array.length_toList];omega) (HONE.out zs) w.heap.size w HBEL.out nl ?_;intro w2 hblk2 hbel2;clear hcall HBLK HBEL HSRC)
 have HB8:Hid (Buf8 w w2 w.heap.size N zs):=by
  obtain ⟨t1,t2⟩:=z7c (cur:=cs.toList) (Z:=[]) (Y:=zs) (by simp) (by rw [HL.out];simp;omega)
  refine ⟨_,hblk2.out,?_,?_,by rw [HL.out];exact hkN,hbel2⟩
  ·rw [show (0:Nat)=([]:List Int).length from rfl,t2]
   simpa using hle
  ·simpa using t1
 clear hblk2 hbel2;rw [HL.out]
 go_loopw [10] (fun p wr=>∃ (i L:Nat),i<=6/\L<=N/\p=.int .i64 L/\Hid (L=(dbl zs i).length/\L=k*2 ^ i/\Buf8 w wr w.heap.size N (dbl zs i))) (fun p _=>N-(intOf p).toNat)
 case atStart=>exact ⟨0,k,by omega,hkN,rfl,⟨HL.out.symm,by simp,HB8.out⟩⟩
 case round=>
  obtain ⟨i,L,hi6,hLN,rfl,HI⟩:=hrel
  by_cases hLT:L<N
  ·have hlt:(L:Int)<(N:Int):=by omega
   obtain ⟨hi5,hLL,hL1⟩:=zly hi6 HI.out.2.1 HN.out.1 h1 hLT;have hsl1:∀ W,(Instr.slice 22 (.slice (some ⟨w.heap.size,0,none⟩) N N) (some (.int .i64 (L:Int))) none none).run Tryz.prog W=.ok (.slice (some ⟨w.heap.size,L,none⟩) (N-L) (N-L)) W:=by
    intro W
    have h0:¬N=L:=by omega
    have h3:¬L=0:=by omega
    rw [run_slice_l W 22 _ _ _ (by simp [Program.elem,Tryz.underlying22]) .i64 _ (by omega) (by omega)]
    simp [Program.elem,Tryz.underlying22,Go.sizeOf,typeInfo,hi,hz1,Result.andThen,sliced,Addr.add,h0,h3]
   have hsl2:∀ W,(Instr.slice 22 (.slice (some ⟨w.heap.size,0,none⟩) N N) none (some (.int .i64 (L:Int))) none).run Tryz.prog W=.ok (.slice (some ⟨w.heap.size,0,none⟩) L N) W:=by
    intro W
    have h0:¬N=0:=by omega
    rw [run_slice_h W 22 _ _ _ (by simp [Program.elem,Tryz.underlying22]) .i64 _ (by omega) (by omega)]
    simp [Program.elem,Tryz.underlying22,Go.sizeOf,typeInfo,hi,hz1,Result.andThen,sliced,Addr.add,h0]
   have hmn:min (L:Int) (N:Int)=L:=by omega
   have HNX:Hid (L+L=(dbl zs (i+1)).length/\L+L=k*2 ^ (i+1)):=by
    obtain ⟨e1,e2,_⟩:=HI.out;exact ⟨by rw [dbl,List.length_append,<-e1],by rw [Nat.pow_succ,<-Nat.mul_assoc,<-e2,Nat.mul_two]⟩
   have HZL:Hid ((dbl zs i).length=L):=HI.out.1.symm;obtain ⟨cur,hg,hM,ht,hl,hbel⟩:=HI.out.2.2;have hcl:=HI.out.2.2.cells;have HC:Hid (∀ j u,((dbl zs i).map (Value.int .u8))[j]?=some u->wr.cell? ((⟨w.heap.size,0,none⟩:Addr).add j)=some u):=z1o (fun j hj=>by rw [Nat.zero_add];exact hcl j hj)
   have HS:Hid ((splice cur L ((dbl zs i).map (Value.int .u8))).take (dbl zs (i+1)).length=(dbl zs (i+1)).map (Value.int .u8)/\N<=(splice cur L ((dbl zs i).map (Value.int .u8))).length):=by
    have:=z7c (Y:=dbl zs i) ht (by rw [HZL.out];omega)
    rw [HZL.out] at this;exact ⟨this.1,by rw [this.2];exact hM⟩
   have HG:Hid (wr.heap[w.heap.size]?=some (.cells cur.toArray 5 (0,0))/\L+L<=cur.length/\Bw w wr):=⟨hg,by omega,hbel⟩
   have hadd:IntKind.i64.wrap ((L:Int)+(L:Int))=((L+L:Nat):Int):=by rw [IntKind.wrap_i64];omega
   clear hg hM ht hl hbel hcl HI;go_wp2_with fail
   go_region_law (refine step_copy_splice rfl (.tmp 70) (.tmp 73) 22 22 rfl 5 Tryz.underlying22 hsz (some ⟨w.heap.size,L,none⟩) (some ⟨w.heap.size,0,none⟩) (N-L) (N-L) L N (by simp [Act.eval,Act.put]) (by simp [Act.eval,Act.put]) w.heap.size L cur 5 (by exact HG.out.1) ((dbl zs i).map (Value.int .u8)) (by rw [List.length_map,HZL.out];exact (Nat.min_eq_left (by omega)).symm) (fun _=>⟨rfl,_,rfl,by exact HC.out⟩) (by rw [List.length_map,HZL.out];exact HG.out.2.1) (HONE.out _) w.heap.size w (by exact HG.out.2.2.drew) nl ?_;intro w4 hg4 hb4;rw [List.length_map,HZL.out])
   all_goals
    go_wp2
    simp only [List.getElem_toArray,List.getElem_cons_succ,List.getElem_cons_zero,Act.put,List.setIfInBounds_toArray,List.set_cons_succ,List.set_cons_zero]
    go_roundw
    case rel=>exact ⟨i+1,L+L,by omega,hLL,by first | rfl | go_num | simp [hadd],⟨HNX.out.1,HNX.out.2,_,hg4.out,HS.out.2,HS.out.1,by rw [<-HNX.out.1];exact hLL,hb4⟩⟩
    case measure=>first | (simp [intOf];omega) | (simp [intOf,hadd];omega)
  ·have hge:¬(L:Int)<(N:Int):=by omega
   obtain rfl:=zoj hi6 HI.out.2.1 HN.out.1 h1 hLT;go_wp2;go_ret;have hB:=HI.out.2.2;refine ⟨⟨_,⟨_,rfl⟩,hB.byt fun z hz=>HR.out z (zg0 zs 6 z hz)⟩,?_⟩
   obtain ⟨_,_,_,_,_,hb⟩:=hB;exact hb
def OpnW (zs:List Int):Option (Nat × Nat)->Prop
 | some q=>q.1<=4096/\q.2<2 ^ q.1 /\
   (∀ (a:Option Addr) (cap:Nat) (w:World),zs.length<=cap->Byt w a zs->Calls Tryz.prog 77 #[.slice a zs.length cap] w fun e w'=>
    ∃ a' cp,e=.returned (.tuple #[.agg #[.slice a' (enc q.1 q.2).length cp,.int .i64 (q.1:Nat)],.bool true])/\Mine w' w.heap.size w'.heap.size a' cp (enc q.1 q.2)/\Below w.heap.size w w') /\
   (∀ (a:Option Addr) (cap:Nat) (w:World),Byt w a zs->Calls Tryz.prog 138 #[.slice a zs.length cap] w fun e w'=>
    ∃ a' cp,e=.returned (.tuple #[.agg #[.slice a' (enc q.1 q.2).length cp,.int .i64 (q.1:Nat)],.bool true])/\Mine w' w.heap.size w'.heap.size a' cp (enc q.1 q.2)/\Below w.heap.size w w')
 | none=>
   (∀ (a:Option Addr) (cap:Nat) (w:World),zs.length<=cap->Byt w a zs->Calls Tryz.prog 77 #[.slice a zs.length cap] w fun e w'=>
    ∃ a' l cp M,e=.returned (.tuple #[.agg #[.slice a' l cp,.int .i64 M],.bool false])/\Below w.heap.size w w') /\
   (∀ (a:Option Addr) (cap:Nat) (w:World),Byt w a zs->Calls Tryz.prog 138 #[.slice a zs.length cap] w fun e w'=>
    e=.returned (.tuple #[.agg #[.slice none 0 0,.int .i64 0],.bool false])/\Below w.heap.size w w')
def za1 (zs:List Int):Option (Nat × Nat)->Prop
 | some q=>q.1<=4096/\q.2<2 ^ q.1 /\
   (∀ (a:Option Addr) (cap:Nat) (w:World),Byt w a zs->Calls Tryz.prog 138 #[.slice a zs.length cap] w fun e w'=>
    ∃ a' cp,e=.returned (.tuple #[.agg #[.slice a' (enc q.1 q.2).length cp,.int .i64 (q.1:Nat)],.bool true])/\Mine w' w.heap.size w'.heap.size a' cp (enc q.1 q.2)/\Below w.heap.size w w')
 | none=>
   ∀ (a:Option Addr) (cap:Nat) (w:World),Byt w a zs->Calls Tryz.prog 138 #[.slice a zs.length cap] w fun e w'=>
    e=.returned (.tuple #[.agg #[.slice none 0 0,.int .i64 0],.bool false])/\Below w.heap.size w w'
theorem OpnW.p {zs:List Int} {o:Option (Nat × Nat)} (h:OpnW zs o):za1 zs o:=by
 cases o with
 | none=>exact h.2
 | some q=>exact ⟨h.1,h.2.1,h.2.2.2⟩
theorem zr9 (zs:List Int) (hl:zs.length<=1048576) (hr:∀ z ∈ zs,0<=z/\z<=255):∃ o,OpnW zs o:=by
 rcases zqo zs hl hr with ⟨n,V,h⟩ | h
 ·exact ⟨some (n,V),h⟩
 ·exact ⟨none,h⟩
def RbY (o:Option (Nat × Nat)) (m:Nat) (zs bs:List Int):Prop:=
 bs.length=64/\((m=0/\bs=zs)\/(m=1/\zs.length=1/\bs=dbl zs 6)\/((m=2\/m=3)/\∃ q,o=some q/\OsY q.1 q.2 m bs))
structure SentB (w:World):Prop where
 d:SentD w
 b0:Sent w 8
 b1:Sent w 6
 b2:Sent w 7
 b3:Sent w 4
 hB:8<w.heap.size/\6<w.heap.size/\7<w.heap.size/\4<w.heap.size
theorem SentB.below {w w':World} (h:SentB w) (hb:Below w.heap.size w w'):SentB w':=
 ⟨h.d.below hb,h.b0.below hb h.hB.1,h.b1.below hb h.hB.2.1,h.b2.below hb h.hB.2.2.1,h.b3.below hb h.hB.2.2.2,by have:=hb.size;have:=h.hB;omega⟩
theorem z78 (m:Nat) (a:Option Addr) (cap:Nat) (zs:List Int) (o:Option (Nat × Nat)) (w:World) (hm:m<=255) (hb:Byt w a zs) (hO:za1 zs o) (hS:SentB w) :
  Calls Tryz.prog 114 #[.int .i64 m,.slice a zs.length cap] w fun e w'=>Below w.heap.size w w' /\
   ((∃ bs v,(∃ q,o=some q/\OsY q.1 q.2 m bs)/\OVB w' w.heap.size v bs/\e=.returned (.tuple #[v,.nilIface]))\/((¬∃ bs q,o=some q/\OsY q.1 q.2 m bs)/\∃ T x v,e=.returned (.tuple #[v,.iface T x]))):=by
 cases o with
 | none=>
  refine (z8d m a cap zs w hS.b0 hS.hB.1 (hO a cap w hb)).mono ?_;rintro e w' ⟨h1,h2⟩;exact ⟨h1,.inr ⟨by simp,h2⟩⟩
 | some q=>
  refine (z84 m a cap zs q.1 q.2 w hm hO.1 hS.d (hO.2.2 a cap w hb)).mono ?_;rintro e w' ⟨h1,⟨bs,v,h2,h3⟩ | ⟨h2,h3⟩⟩
  ·exact ⟨h1,.inl ⟨bs,v,⟨q,rfl,h2⟩,h3⟩⟩
  ·refine ⟨h1,.inr ⟨?_,h3⟩⟩
   rintro ⟨bs,q',hq,h⟩
   cases hq
   exact h2 ⟨bs,h⟩
theorem zc1 (a:Option Addr) (cap:Nat) (zs:List Int) (o:Option (Nat × Nat)) (w:World) (hb:Byt w a zs) (h2:zs.length<=64) (hS:SentB w) :
  Calls Tryz.prog 86 #[.int .i64 0,.slice a zs.length cap] w fun e w'=>Below w.heap.size w w' /\
   ((∃ bs v,RbY o 0 zs bs/\OVB w' w.heap.size v bs/\e=.returned (.tuple #[v,.nilIface]))\/((¬∃ bs,RbY o 0 zs bs)/\∃ T x v,e=.returned (.tuple #[v,.iface T x]))):=by
 have HS:Hid (SentB w):=hS;have HC:=z4i a cap zs w hb (by omega)
 clear hS hb
 go_enter Tryz.func86,Tryz.ntmps86
 go_wp2_with fail
 refine HC.mono ?_;clear HC;rintro e w1 ⟨⟨v,rfl,hov⟩,hb1⟩;obtain ⟨va,vc,rfl⟩:=hov.form;have HO:Hid (OVB w1 w.heap.size (.slice va zs.length vc) zs/\Bw w w1):=⟨hov,hb1⟩;obtain ⟨T,x,hc⟩:=(HS.out.below hb1).b2;have hl1:=(HS.out.below hb1).hB;clear hov hb1
 by_cases h64:zs.length=64
 ·have HY:Hid (RbY o 0 zs zs/\OVB w1 w.heap.size (.slice va 64 vc) zs):=⟨⟨h64,.inl ⟨rfl,rfl⟩⟩,by rw [<-h64];exact HO.out.1⟩
  have hz:(zs.length:Int)=64:=by omega
  go_wp2
  go_ret2
  exact ⟨HO.out.2,.inl ⟨zs,_,HY.out.1,HY.out.2,rfl⟩⟩
 ·have HN:Hid (¬∃ bs,RbY o 0 zs bs):=by
   rintro ⟨bs,h,⟨_,rfl⟩ | ⟨h0,_⟩ | ⟨h0,_⟩⟩
   ·exact h64 h
   ·omega
   ·omega
  have hz:¬(zs.length:Int)=64:=by omega
  go_wp2
  go_quiet (fail)
  go_wp2
  go_ret2
  exact ⟨below_drewN HO.out.2 _,.inr ⟨HN.out,_,_,_,rfl⟩⟩
theorem zbw (a:Option Addr) (cap:Nat) (zs:List Int) (o:Option (Nat × Nat)) (w:World) (hb:Byt w a zs) (h1:1<=zs.length) (h2:zs.length<=64) (hS:SentB w) :
  Calls Tryz.prog 86 #[.int .i64 1,.slice a zs.length cap] w fun e w'=>Below w.heap.size w w' /\
   ((∃ bs v,RbY o 1 zs bs/\OVB w' w.heap.size v bs/\e=.returned (.tuple #[v,.nilIface]))\/((¬∃ bs,RbY o 1 zs bs)/\∃ T x v,e=.returned (.tuple #[v,.iface T x]))):=by
 have HS:Hid (SentB w):=hS;have HC:=zhe a cap zs w hb h1 h2;have hdl:=z9x zs 6;obtain ⟨ds,hds⟩:∃ ds,ds=dbl zs 6:=⟨_,rfl⟩;rw [<-hds] at HC hdl;have HD:Hid (ds=dbl zs 6/\ds.length=zs.length*64):=⟨hds,hdl⟩;clear hS hb hds hdl
 go_enter Tryz.func86,Tryz.ntmps86
 go_wp2_with fail
 refine HC.mono ?_;clear HC;rintro e w0 ⟨⟨da,dc,rfl,hbd⟩,hb0⟩;have HC:=z4i da dc ds w0 hbd (by have:=HD.out.2;omega)
 have HB0:Hid (Bw w w0):=hb0;clear hbd hb0;go_wp2_with fail
 refine HC.mono ?_;clear HC;rintro e w1 ⟨⟨v,rfl,hov⟩,hb1⟩;obtain ⟨va,vc,rfl⟩:=hov.form;have hb01:=HB0.out.trans (hb1.mono HB0.out.size);have HO:Hid (OVB w1 w.heap.size (.slice va ds.length vc) ds/\Bw w w1):=⟨hov.weak HB0.out.size,hb01⟩;obtain ⟨T,x,hc⟩:=(HS.out.below hb01).b2;have hl1:=(HS.out.below hb01).hB;clear hov hb1 hb01
 by_cases h64:ds.length=64
 ·have HY:Hid (RbY o 1 zs ds/\OVB w1 w.heap.size (.slice va 64 vc) ds):=⟨⟨h64,.inr (.inl ⟨rfl,by have:=HD.out.2;omega,HD.out.1⟩)⟩,by rw [<-h64];exact HO.out.1⟩
  have hz:(ds.length:Int)=64:=by omega
  go_wp2
  go_ret2
  exact ⟨HO.out.2,.inl ⟨ds,_,HY.out.1,HY.out.2,rfl⟩⟩
 ·have HN:Hid (¬∃ bs,RbY o 1 zs bs):=by
   rintro ⟨bs,h,⟨h0,_⟩ | ⟨_,h0,rfl⟩ | ⟨h0,_⟩⟩
   ·omega
   ·have:=HD.out.2
    omega
   ·omega
  have hz:¬(ds.length:Int)=64:=by omega
  go_wp2
  go_quiet (fail)
  go_wp2
  go_ret2
  exact ⟨below_drewN HO.out.2 _,.inr ⟨HN.out,_,_,_,rfl⟩⟩
theorem zbr (m:Nat) (a:Option Addr) (cap:Nat) (zs:List Int) (o:Option (Nat × Nat)) (w:World) (hm:m=2\/m=3) (hb:Byt w a zs) (hO:za1 zs o) (hS:SentB w) :
  Calls Tryz.prog 86 #[.int .i64 m,.slice a zs.length cap] w fun e w'=>Below w.heap.size w w' /\
   ((∃ bs v,RbY o m zs bs/\OVB w' w.heap.size v bs/\e=.returned (.tuple #[v,.nilIface]))\/((¬∃ bs,RbY o m zs bs)/\∃ T x v,e=.returned (.tuple #[v,.iface T x]))):=by
 have HS:Hid (SentB w):=hS;have HC:=z78 m a cap zs o w (by omega) hb hO hS
 have HN2:Hid ((¬∃ bs q,o=some q/\OsY q.1 q.2 m bs)->¬∃ bs,RbY o m zs bs):=by
  rintro h ⟨bs,-,⟨h0,_⟩ | ⟨h0,_⟩ | ⟨_,q,hq,hy⟩⟩
  ·omega
  ·omega
  ·exact h ⟨bs,q,hq,hy⟩
 have HN3:Hid (∀ bs bs',(∃ q,o=some q/\OsY q.1 q.2 m bs)->RbY o m zs bs'->bs'=bs):=by
  rintro bs bs' ⟨q,hq,hy⟩ ⟨-,⟨h0,_⟩ | ⟨h0,_⟩ | ⟨_,q',hq',hy'⟩⟩
  ·omega
  ·omega
  ·rw [hq] at hq'
   cases hq'
   exact hy'.unique hy
 have HN5:Hid (∀ bs,(∃ q,o=some q/\OsY q.1 q.2 m bs)->¬bs.length=64->¬∃ bs,RbY o m zs bs):=by
  rintro bs hy h64 ⟨bs',h⟩;have:=HN3.out bs bs' hy h;subst this;exact h64 h.1
 have HN4:Hid (∀ bs,bs.length=64->(∃ q,o=some q/\OsY q.1 q.2 m bs)->RbY o m zs bs):=fun bs h64 h=>⟨h64,.inr (.inr ⟨hm,h⟩)⟩
 clear hS hb hO
 go_enter Tryz.func86,Tryz.ntmps86
 rcases hm with rfl | rfl
 all_goals
  go_wp2_with fail
  refine HC.mono ?_;clear HC;rintro e w1 ⟨hb1,⟨bs,v,hy,hov,rfl⟩ | ⟨hno,T,x,v,rfl⟩⟩
  ·obtain ⟨va,vc,rfl⟩:=hov.form
   have HO:Hid (OVB w1 w.heap.size (.slice va bs.length vc) bs/\Bw w w1):=⟨hov,hb1⟩;have HYQ:Hid (∃ q,o=some q/\OsY q.1 q.2 _ bs):=hy;obtain ⟨T,x,hc⟩:=(HS.out.below hb1).b2;have hl1:=(HS.out.below hb1).hB;clear hov hb1 hy
   by_cases h64:bs.length=64
   ·have HY:Hid (RbY o _ zs bs/\OVB w1 w.heap.size (.slice va 64 vc) bs):=⟨HN4.out bs h64 HYQ.out,by rw [<-h64];exact HO.out.1⟩
    have hz:(bs.length:Int)=64:=by omega
    go_wp2
    go_ret2
    exact ⟨HO.out.2,.inl ⟨bs,_,HY.out.1,HY.out.2,rfl⟩⟩
   ·have HN:Hid (¬∃ bs,RbY o _ zs bs):=HN5.out bs HYQ.out h64
    have hz:¬(bs.length:Int)=64:=by omega
    go_wp2
    go_quiet (fail)
    go_wp2
    go_ret2
    exact ⟨below_drewN HO.out.2 _,.inr ⟨HN.out,_,_,_,rfl⟩⟩
  ·have HB1:Hid (Bw w w1):=hb1
   have HN:=HN2.out hno;clear hb1 hno;have HNH:Hid (¬∃ bs,RbY o _ zs bs):=HN;clear HN HN2 HN3 HN4 HN5;go_wp2
   go_ret2
   exact ⟨HB1.out,.inr ⟨HNH.out,_,_,_,rfl⟩⟩
theorem z93 (m:Nat) (a:Option Addr) (cap:Nat) (zs:List Int) (o:Option (Nat × Nat)) (w:World) (hm:4<=m) (hS:SentB w) :
  Calls Tryz.prog 86 #[.int .i64 m,.slice a zs.length cap] w fun e w'=>Below w.heap.size w w' /\
   ((∃ bs v,RbY o m zs bs/\OVB w' w.heap.size v bs/\e=.returned (.tuple #[v,.nilIface]))\/((¬∃ bs,RbY o m zs bs)/\∃ T x v,e=.returned (.tuple #[v,.iface T x]))):=by
 obtain ⟨T,x,hc⟩:=hS.b1;have hl1:=hS.hB;have HN:Hid (¬∃ bs,RbY o m zs bs):=by
  rintro ⟨bs,-,⟨h0,_⟩ | ⟨h0,_⟩ | ⟨h0,_⟩⟩ <;> omega
 have e0:((m:Int) == 0)=false:=by simp;omega
 have e1:((m:Int) == 1)=false:=by simp;omega
 have e2:((m:Int) == 2)=false:=by simp;omega
 have e3:((m:Int) == 3)=false:=by simp;omega
 clear hS hm
 go_enter Tryz.func86,Tryz.ntmps86
 go_wp2
 go_ret2
 exact ⟨Below.refl _ _,.inr ⟨HN.out,_,_,_,rfl⟩⟩
theorem zbp (m:Nat) (a:Option Addr) (cap:Nat) (zs:List Int) (o:Option (Nat × Nat)) (w:World) (hb:Byt w a zs) (h1:1<=zs.length) (h2:zs.length<=64) (hO:za1 zs o) (hS:SentB w) :
  Calls Tryz.prog 86 #[.int .i64 m,.slice a zs.length cap] w fun e w'=>Below w.heap.size w w' /\
   ((∃ bs v,RbY o m zs bs/\OVB w' w.heap.size v bs/\e=.returned (.tuple #[v,.nilIface]))\/((¬∃ bs,RbY o m zs bs)/\∃ T x v,e=.returned (.tuple #[v,.iface T x]))):=by
 rcases (by omega:m=0\/m=1\/(m=2\/m=3)\/4<=m) with rfl | rfl | hm | hm
 ·exact zc1 a cap zs o w hb h2 hS
 ·exact zbw a cap zs o w hb h1 h2 hS
 ·exact zbr m a cap zs o w hm hb hO hS
 ·exact z93 m a cap zs o w hm hS
theorem Byt.head1 {w:World} {a:Option Addr} {z:Int} {zs:List Int} (h:Byt w a (z :: zs)):∃ b off,a=some ⟨b,off,none⟩/\b<w.heap.size/\w.cell? ⟨b,off,none⟩=some (.int .u8 z)/\Byt w (some ⟨b,off+1,none⟩) zs/\0<=z/\z<=255:=by
 obtain ⟨b,off,rfl,hb,hc⟩:=h.2 (by simp)
 have hz:=h.1 z (by simp)
 refine ⟨b,off,rfl,hb,by simpa using hc 0 (by simp),⟨fun x hx=>h.1 x (by simp [hx]),fun _=>⟨b,off+1,rfl,hb,fun i hi=>?_⟩⟩,hz⟩
 have:=hc (i+1) (by simp;omega)
 rw [show off+1+i=off+(i+1) by omega,this]
 simp
theorem zdt (a:Option Addr) (cap m:Nat) (zs:List Int) (o:Option (Nat × Nat)) (w:World) (hb:Byt w a ((m:Int) :: zs)) (h1:1<=zs.length) (h2:zs.length<=64) (hcap:zs.length+1<=cap) (hO:za1 zs o) (hS:SentB w) :
  Calls Tryz.prog 68 #[.slice a (zs.length+1) cap] w fun e w'=>Below w.heap.size w w' /\
   ((∃ bs v,RbY o m zs bs/\OVB w' w.heap.size v bs/\e=.returned (.tuple #[v,.nilIface]))\/((¬∃ bs,RbY o m zs bs)/\∃ T x v,e=.returned (.tuple #[v,.iface T x]))):=by
 obtain ⟨b,off,rfl,hbl,c0,hbt,hm0,hm1⟩:=hb.head1;have HRB:Hid (Calls Tryz.prog 86 #[.int .i64 m,.slice (some ⟨b,off+1,none⟩) zs.length (cap-1)] w.drew fun e w'=>Below w.drew.heap.size w.drew w' /\
   ((∃ bs v,RbY o m zs bs/\OVB w' w.drew.heap.size v bs/\e=.returned (.tuple #[v,.nilIface]))\/((¬∃ bs,RbY o m zs bs)/\∃ T x v,e=.returned (.tuple #[v,.iface T x])))):=
  zbp m _ _ zs o w.drew (hbt.drewN 1) h1 h2 hO (hS.below ((Below.refl _ _).drew))
 clear hb hbt hO hS;have g1:¬((zs.length:Int)+1<2):=by omega
 have g2:¬((65:Int)<(zs.length:Int)+1):=by omega
 have g3:IntKind.i64.wrap (m:Int)=m:=by rw [IntKind.wrap_i64];omega
 have g6:(1:Int)<=(zs.length:Int)+1:=by omega
 have g4:¬cap=1:=by omega
 have g5:¬cap=0:=by omega
 go_enter Tryz.func68,Tryz.ntmps68
 go_wp2_with fail
 refine zj (S:=fun W=>W.cell? ⟨b,off,none⟩=some (.int .u8 m)) 12 (by kernel_rfl) (by kernel_rfl) (by exact c0) (fun hHeld=>?_)
 refine tk 0 ?_
 try simp only [tkS]
 refine tk 1 ?_
 try simp only [tkS]
 refine tk 2 ?_
 try simp only [tkS]
 refine tk 3 ?_
 try simp only [tkS]
 refine tk 4 ?_
 try simp only [tkS]
 refine tk 5 ?_
 try simp only [tkS]
 refine wpAnyH_ready (rs:=[6]) (by kernel_rfl) (by simp) ?_
 refine AllReadyH.cons rfl (fun K hK=>?_) AllReadyH.nil
 go_simp
 refine (HRB.out).mono ?_;rintro e w1 ⟨hb1',hd⟩;have hb1:Bw w w1:=Below.drewS hb1';obtain ⟨v,er,rfl,hd2⟩:∃ v er,e=.returned (.tuple #[v,er])/\((er=.nilIface/\∃ bs,RbY o m zs bs/\OVB w1 w.heap.size v bs)\/((¬∃ bs,RbY o m zs bs)/\∃ T x,er=.iface T x)):=by
  rcases hd with ⟨bs,v,h1,h2,rfl⟩ | ⟨h1,T,x,v,rfl⟩
  ·exact ⟨v,_,rfl,.inl ⟨rfl,bs,h1,h2⟩⟩
  ·exact ⟨v,_,rfl,.inr ⟨h1,T,x,rfl⟩⟩
 have HD:Hid ((er=.nilIface/\∃ bs,RbY o m zs bs/\OVB w1 w.heap.size v bs)\/((¬∃ bs,RbY o m zs bs)/\∃ T x,er=.iface T x)):=hd2;have HB1:Hid (Bw w w1):=hb1;have HK:Hid (w1.cell? ⟨b,off,none⟩=some (.int .u8 m)):=keep hb1 hbl c0;clear hd hd2 hb1 hb1'
 dsimp only
 refine hK.out _ _ (by exact HK.out) (fun hHeld=>?_)
 clear hK K
 try simp only [tkS]
 refine tk 7 ?_
 try simp only [tkS]
 refine tk 8 ?_
 try simp only [tkS]
 refine tk 9 ?_
 try simp only [tkS]
 refine tk 10 ?_
 try simp only [tkS]
 refine tk 11 ?_
 try simp only [tkS]
 refine wpAnyH_done (by kernel_rfl) ?_ _
 simp only [z0d,List.drop_succ_cons,List.drop_zero]
 rcases HD.out with ⟨rfl,bs,hy,hov⟩ | ⟨hno,T,x,rfl⟩
 ·have HO:Hid (RbY o m zs bs/\OVB w1 w.heap.size v bs):=⟨hy,hov⟩
  obtain ⟨va,vc,rfl⟩:=hov.form;clear hy hov HD HRB;go_wp2
  go_ret2
  exact ⟨HB1.out,.inl ⟨bs,_,HO.out.1,HO.out.2,rfl⟩⟩
 ·have HN:Hid (¬∃ bs,RbY o m zs bs):=hno
  have hz1:=HB1.out.size;clear hno HD HRB;go_wp2
  go_ret2
  exact ⟨HB1.out.alloc (by omega) _,.inr ⟨HN.out,_,_,_,rfl⟩⟩
theorem zew (a:Option Addr) (cap n:Nat) (w:World) (hn:n<2\/65<n) (hS:SentB w) :
  Calls Tryz.prog 68 #[.slice a n cap] w fun e w'=>Below w.heap.size w w'/\∃ T x v,e=.returned (.tuple #[v,.iface T x]):=by
 obtain ⟨T,x,hc⟩:=hS.b3;have hl1:=hS.hB;clear hS
 go_enter Tryz.func68,Tryz.ntmps68
 rcases hn with hn | hn
 ·have g1:(n:Int)<2:=by omega
  go_wp2
  go_region
  all_goals
   go_wp2
   go_ret2
   exact ⟨((Below.refl w.heap.size w).drew).alloc (by simp) _,_,_,_,rfl⟩
 ·have g1:¬(n:Int)<2:=by omega
  have g2:(65:Int)<n:=by omega
  go_wp2
  go_region
  all_goals
   go_wp2
   go_ret2
   exact ⟨((Below.refl w.heap.size w).drew).alloc (by simp) _,_,_,_,rfl⟩
theorem zf7 (a:Option Addr) (cap m:Nat) (zs:List Int) (o:Option (Nat × Nat)) (w:World) (hb:Byt w a ((m:Int) :: zs)) (h1:1<=zs.length) (h2:zs.length<=64) (hcap:zs.length+1<=cap) (hO:za1 zs o) (hS:SentB w) :
  Calls Tryz.prog 44 #[.slice a (zs.length+1) cap] w fun e w'=>Below w.heap.size w w' /\
   ((∃ bs v,RbY o m zs bs/\OVB w' w.heap.size v bs/\e=.returned (.tuple #[v,.bool true]))\/((¬∃ bs,RbY o m zs bs)/\e=.returned (.tuple #[.slice none 0 0,.bool false]))):=by
 have HR:=zdt a cap m zs o w hb h1 h2 hcap hO hS;clear hb hO hS
 go_enter Tryz.func44,Tryz.ntmps44
 go_wp2_with fail
 refine HR.mono ?_;clear HR;rintro e w1 ⟨hb1,⟨bs,v,hy,hov,rfl⟩ | ⟨hno,T,x,v,rfl⟩⟩
 ·have HO:Hid (RbY o m zs bs/\OVB w1 w.heap.size v bs/\Bw w w1):=⟨hy,hov,hb1⟩
  obtain ⟨va,vc,rfl⟩:=hov.form;clear hy hov hb1;go_wp2
  go_ret2
  exact ⟨HO.out.2.2,.inl ⟨bs,_,HO.out.1,HO.out.2.1,rfl⟩⟩
 ·have HO:Hid ((¬∃ bs,RbY o m zs bs)/\Bw w w1):=⟨hno,hb1⟩
  clear hno hb1;go_wp2
  go_ret2
  exact ⟨HO.out.2,.inr ⟨HO.out.1,rfl⟩⟩
theorem zgp (a:Option Addr) (cap n:Nat) (w:World) (hn:n<2\/65<n) (hS:SentB w) :
  Calls Tryz.prog 44 #[.slice a n cap] w fun e w'=>Below w.heap.size w w'/\e=.returned (.tuple #[.slice none 0 0,.bool false]):=by
 have HR:=zew a cap n w hn hS;clear hS
 go_enter Tryz.func44,Tryz.ntmps44
 go_wp2_with fail
 refine HR.mono ?_;clear HR;rintro e w1 ⟨hb1,T,x,v,rfl⟩;have HO:Hid (Bw w w1):=hb1;clear hb1;go_wp2
 go_ret2
 exact ⟨HO.out,rfl⟩
theorem zeu (a:Option Addr) (cap n:Nat) (w:World) (hn:n<2\/65<n) :
  Calls Tryz.prog 59 #[.slice a n cap] w fun e w'=>w'=w/\e=.returned (.tuple #[.slice none 0 0,.bool false]):=by
 go_enter Tryz.func59,Tryz.ntmps59
 rcases hn with hn | hn
 ·have g1:(n:Int)<2:=by omega
  go_wp2
  go_ret2
  exact ⟨rfl,rfl⟩
 ·have g1:¬(n:Int)<2:=by omega
  have g2:(65:Int)<n:=by omega
  go_wp2
  go_ret2
  exact ⟨rfl,rfl⟩
def DcP (o:Option (Nat × Nat)) (m:Nat) (zs:List Int) (w:World) (e:Ending) (w':World):Prop:=Below w.heap.size w w' /\
 ((∃ bs v,RbY o m zs bs/\OVB w' w.heap.size v bs/\e=.returned (.tuple #[v,.bool true]))\/((¬∃ bs,RbY o m zs bs)/\∃ v,e=.returned (.tuple #[v,.bool false])))
theorem DcP.yes {o:Option (Nat × Nat)} {m:Nat} {zs:List Int} {w w':World} {e:Ending} (h:Below w.heap.size w w') (bs:List Int) (v:Value) (h1:RbY o m zs bs) (h2:OVB w' w.heap.size v bs) (h3:e=.returned (.tuple #[v,.bool true])):DcP o m zs w e w':=⟨h,.inl ⟨bs,v,h1,h2,h3⟩⟩
theorem DcP.no {o:Option (Nat × Nat)} {m:Nat} {zs:List Int} {w w':World} {e:Ending} (h:Below w.heap.size w w') (h1:¬∃ bs,RbY o m zs bs) (v:Value) (h3:e=.returned (.tuple #[v,.bool false])):DcP o m zs w e w':=⟨h,.inr ⟨h1,v,h3⟩⟩
theorem za8 (a:Option Addr) (cap m:Nat) (zs:List Int) (o:Option (Nat × Nat)) (w:World) (hb:Byt w a ((m:Int) :: zs)) (h1:1<=zs.length) (h2:zs.length<=64) (hm:4<=m) :
  Calls Tryz.prog 59 #[.slice a (zs.length+1) cap] w (DcP o m zs w):=by
 obtain ⟨b,off,rfl,hbl,c0,hbt,hm0,hm1⟩:=hb.head1;have HN:Hid (¬∃ bs,RbY o m zs bs):=by
  rintro ⟨bs,-,⟨h0,_⟩ | ⟨h0,_⟩ | ⟨h0,_⟩⟩ <;> omega
 clear hb hbt;have g1:¬((zs.length:Int)+1<2):=by omega
 have g2:¬((65:Int)<(zs.length:Int)+1):=by omega
 have e0:((m:Int) == 0)=false:=by simp;omega
 have e1:((m:Int) == 1)=false:=by simp;omega
 have e2:((m:Int) == 2)=false:=by simp;omega
 have e3:((m:Int) == 3)=false:=by simp;omega
 have g3:(0:Int)<(zs.length:Int)+1:=by omega
 go_enter Tryz.func59,Tryz.ntmps59
 go_wp2
 go_ret2
 exact DcP.no (Below.refl _ _) HN.out _ rfl
theorem zci (a:Option Addr) (cap:Nat) (zs:List Int) (o:Option (Nat × Nat)) (w:World) (hb:Byt w a (((0:Nat):Int) :: zs)) (h1:1<=zs.length) (h2:zs.length<=64) (hcap:zs.length+1<=cap) :
  Calls Tryz.prog 59 #[.slice a (zs.length+1) cap] w (DcP o 0 zs w):=by
 obtain ⟨b,off,rfl,hbl,c0,hbt,hm0,hm1⟩:=hb.head1;have HO:Hid (OVB (w.alloc (Obj.cells #[] 5)) w.heap.size (.slice (some ⟨w.heap.size,0,none⟩) 0 0) []):=OVB.empty w _ nl;have HY:Hid (Byt (w.alloc (Obj.cells #[] 5)) (some ⟨b,off+1,none⟩) zs):=hbt.alloc _;have HB:Hid (Bw w (w.alloc (Obj.cells #[] 5))):=bAw;clear hb hbt;have g1:¬((zs.length:Int)+1<2):=by omega
 have g2:¬((65:Int)<(zs.length:Int)+1):=by omega
 have g3:(0:Int)<(zs.length:Int)+1:=by omega
 have g6:(1:Int)<=(zs.length:Int)+1:=by omega
 have g4:¬cap=1:=by omega
 have g5:¬cap=0:=by omega
 simp only [Int.natCast_zero] at c0
 go_enter Tryz.func59,Tryz.ntmps59
 go_wp2_with (at_builtin;(refine zi rfl (.tmp 27) (.tmp 29) rfl w.heap.size (.slice (some ⟨w.heap.size,0,none⟩) 0 0) [] rfl HO.out (some ⟨b,off+1,none⟩) (cap-1) zs rfl HY.out (by simp;omega) (by simp) ?_;intro v1 w1 hov1 hgr1;have HB1:Hid (Below w.heap.size w w1):=z0l HB.out (by simp) HO.out hgr1;have HV1:Hid (OVB w1 w.heap.size v1 zs):=(by simpa [Hid] using hov1);clear hov1 hgr1))
 go_ret2
 by_cases h64:zs.length=64
 ·refine DcP.yes HB1.out zs v1 ⟨h64,.inl ⟨rfl,rfl⟩⟩ HV1.out ?_
  simp [h64]
 ·refine DcP.no HB1.out ?_ v1 ?_
  ·rintro ⟨bs,h,⟨_,rfl⟩ | ⟨h0,_⟩ | ⟨h0,_⟩⟩
   ·exact h64 h
   ·omega
   ·omega
  ·have:¬(zs.length:Int)+1=65:=by omega
   simp [this]
theorem zoh (z:Int):dbl [z] 6=List.replicate 64 z:=by rfl
theorem zcl (a:Option Addr) (cap:Nat) (zs:List Int) (o:Option (Nat × Nat)) (w:World) (hb:Byt w a (((1:Nat):Int) :: zs)) (h1:1<=zs.length) (h2:zs.length<=64) (hcap:zs.length+1<=cap) :
  Calls Tryz.prog 59 #[.slice a (zs.length+1) cap] w (DcP o 1 zs w):=by
 obtain ⟨b,off,rfl,hbl,c0,hbt,hm0,hm1⟩:=hb.head1;obtain ⟨z,zt,hzs⟩:∃ z zt,zs=z :: zt:=by
  cases zs with
  | nil=>simp at h1
  | cons z zt=>exact ⟨z,zt,rfl⟩
 have hbt':=hbt;rw [hzs] at hbt';obtain ⟨b',off',hbo,-,c1,-,hz0',hz1'⟩:=hbt'.head1
 cases hbo
 have HZ:Hid ((0<=z/\z<=255)/\zs=z :: zt):=⟨⟨hz0',hz1'⟩,hzs⟩;obtain ⟨rs,hrs⟩:∃ rs,rs=List.replicate 64 z:=⟨_,rfl⟩;have HL:Hid (rs.length=64/\(∀ k,k<64->rs.getD k 0=z)/\rs=List.replicate 64 z):=by
  refine ⟨by rw [hrs,List.length_replicate],fun k hk=>?_,hrs⟩
  rw [hrs,List.getD,List.getElem?_replicate,if_pos hk]
  rfl
 clear hb hbt hbt' hrs hzs hz0' hz1';obtain ⟨i0,hi,hz0,hz1,hz2⟩:=info_parts Tryz.infoU8;have g1:¬((zs.length:Int)+1<2):=by omega
 have g2:¬((65:Int)<(zs.length:Int)+1):=by omega
 have g3:(0:Int)<(zs.length:Int)+1:=by omega
 have g4:(1:Int)<(zs.length:Int)+1:=by omega
 simp only [Int.natCast_one] at c0
 go_enter Tryz.func59,Tryz.ntmps59
 go_wp2_with (at_make;refine wpList_make_full _ rfl _ _ 22 rfl w.heap.size 5 i0 (.int .u8 0) 1 Tryz.underlying22 hi hz0 hz1 .i64 .i64 _ _ 64 rfl rfl rfl rfl (by rw [hz2];omega) (by unfold maxLen;omega) nl ?_;intro w1 hown hgrow)
 have h0:Own w1 w.heap.size w.heap.size 64 (part rs 0):=by
  rw [z3r,HL.out.1];refine ⟨?_,by intro z hz;simp at hz;omega⟩
  rw [z6j] at hown
  simpa using hown
 have hbw:Bw w w1:=(Below.refl _ _).grown hgrow nl (by intro k hk;cases hk)
 have H0:Hid (Own w1 w.heap.size w.heap.size 64 (part rs 0)):=h0;clear h0 hown hgrow hi hz0 hz1 hz2
 go_loopw [5] (fun i wr=>∃ k:Nat,k<=64/\i=.int .i64 k/\Own wr w.heap.size w.heap.size 64 (part rs k)/\Below w.heap.size w wr) (fun i _=>64-(intOf i).toNat)
 case atStart=>exact ⟨0,Nat.zero_le _,rfl,H0.out,hbw⟩
 case round=>
  obtain ⟨k,hk,rfl,hown,hbel⟩:=hrel;have HO:Hid (Own wr w.heap.size w.heap.size 64 (part rs k)):=hown;have HBE:Hid (Bw w wr):=hbel;clear hown hbw H0
  by_cases hlt:k<64
  ·have hpl:(part rs k).length=64:=by rw [z2m _ _ (by rw [HL.out.1];omega)];exact HL.out.1
   have hlt':(k:Int)<64:=by omega
   have hsrc:wr.cell? ⟨b,off+1,none⟩=some (.int .u8 z):=(hbel.cell (p:=⟨b,off+1,none⟩) hbl).trans c1;have hdst:=HO.out.cell k (by omega)
   have hfz:=HO.out.frozen k;have R:=HO.out.store k (rs.getD k 0) (by rw [HL.out.2.1 k hlt];exact HZ.out.1)
   rw [z3d _ _ (by rw [HL.out.1];exact hlt),HL.out.2.1 k hlt] at R
   have HR:Hid (Own (wr.setCell ⟨w.heap.size,k,none⟩ (.int .u8 z)) w.heap.size w.heap.size 64 (part rs (k+1))):=R;have hbel':=hbel.setCell (p:=⟨w.heap.size,k,none⟩) nl (.int .u8 z);have HB:Hid (Bw w (wr.setCell ⟨w.heap.size,k,none⟩ (.int .u8 z))):=hbel';clear R hpl hbel' hbel;go_wp2;go_roundw
   case rel=>exact ⟨k+1,by omega,by go_num,by simpa using HR.out,by simpa using HB.out⟩
   case measure=>simp [intOf];omega
  ·have hkn:k=64:=by omega
   subst hkn;have hall:=HO.out;rw [<-HL.out.1,z7x,HL.out.1] at hall;have HA:Hid (OVB wr w.heap.size (.slice (some ⟨w.heap.size,0,none⟩) 64 64) rs):=by
    have:=hall;unfold Own at this;rw [HL.out.1] at this;unfold Hid OVB;rw [HL.out.1];exact this
   clear hall hbel;go_wp2
   go_ret2
   by_cases h64:zs.length=1
   ·refine DcP.yes HBE.out rs (.slice (some ⟨w.heap.size,0,none⟩) 64 64) ⟨HL.out.1,.inr (.inl ⟨rfl,h64,?_⟩)⟩ HA.out (by simp [h64])
    obtain rfl:zt=[]:=by
     have:=HZ.out.2;rw [this] at h64
     simpa using h64
    rw [HZ.out.2,zoh,HL.out.2.2]
   ·refine DcP.no HBE.out ?_ (.slice (some ⟨w.heap.size,0,none⟩) 64 64) ?_
    ·rintro ⟨bs,h,⟨h0,_⟩ | ⟨_,h0,_⟩ | ⟨h0,_⟩⟩
     ·omega
     ·exact h64 h0
     ·omega
    ·have h9:¬(zs.length:Int)+1=2:=by omega
     simp [h9]
def RdR (n V m:Nat) (w:World) (e:Ending) (w':World):Prop:=Below w.heap.size w w' /\
 ((∃ ts M U a1 c1 a2 c2, RdS n V m ts M U /\ e = .returned (.tuple #[.slice a1 ts.length c1, .agg #[.slice a2 (enc M U).length c2, .int .i64 (M : Nat)], .bool true]) /\ MinI w' w.heap.size w'.heap.size a1 c1 ts /\ Mine w' w.heap.size w'.heap.size a2 c2 (enc M U)) \/
  ((¬∃ ts M U,RdS n V m ts M U)/\∃ v a2 l2 c2 M,e=.returned (.tuple #[v,.agg #[.slice a2 l2 c2,.int .i64 M],.bool false])))
def RdF (n V m:Nat) (w w':World) (v:Value) (a2:Option Addr) (l2 c2:Nat) (M:Int) (t:Bool):Prop:=Below w.heap.size w w' /\
 ((t=true/\∃ ts N U a1 c1,RdS n V m ts N U/\M=(N:Nat)/\v=.slice a1 ts.length c1/\l2=(enc N U).length/\MinI w' w.heap.size w'.heap.size a1 c1 ts/\Mine w' w.heap.size w'.heap.size a2 c2 (enc N U))\/(t=false/\¬∃ ts M U,RdS n V m ts M U))
theorem RdR.form {n V m:Nat} {w w':World} {e:Ending} (h:RdR n V m w e w'):∃ v a2 l2 c2 M t,e=.returned (.tuple #[v,.agg #[.slice a2 l2 c2,.int .i64 M],.bool t])/\Hid (RdF n V m w w' v a2 l2 c2 M t):=by
 obtain ⟨hb,⟨ts,M,U,a1,c1,a2,c2,h1,rfl,h2,h3⟩ | ⟨h1,v,a2,l2,c2,M,rfl⟩⟩:=h
 ·exact ⟨_,a2,_,c2,_,true,rfl,⟨hb,.inl ⟨rfl,ts,M,U,a1,c1,h1,rfl,rfl,rfl,h2,h3⟩⟩⟩
 ·exact ⟨v,a2,l2,c2,M,false,rfl,⟨hb,.inr ⟨rfl,h1⟩⟩⟩
theorem RdF.late {n V m:Nat} {w w':World} {v:Value} {a2:Option Addr} {l2 c2:Nat} {M:Int} {t:Bool} (h:Hid (RdF n V m w w' v a2 l2 c2 M t)) (Y:Nat) :
  (Y<w.heap.size/\w.cell? ⟨Y,0,none⟩=some (.slice none 0 0)/\w.cell? ⟨Y,1,none⟩=some (.int .i64 0)/\w.frozen? ⟨Y,0,none⟩=false/\w.frozen? ⟨Y,1,none⟩=false) ->
   w'.cell? ⟨Y,0,none⟩=some (.slice none 0 0)/\w'.cell? ⟨Y,1,none⟩=some (.int .i64 0)/\w'.frozen? ⟨Y,0,none⟩=false/\w'.frozen? ⟨Y,1,none⟩=false:=by
 rintro ⟨h0,h1,h2,h3,h4⟩;exact ⟨keep h.out.1 h0 h1,keep h.out.1 h0 h2,(h.out.1.frozen (p:=⟨Y,0,none⟩) h0).trans h3,(h.out.1.frozen (p:=⟨Y,1,none⟩) h0).trans h4⟩
def RdC :Prop:=∀ (n V m:Nat) (a:Option Addr) (cap:Nat) (w:World),n<=4096->V<2 ^ n->(m=2\/m=3)->Byt w a (enc n V) ->
 Calls Tryz.prog 78 #[.agg #[.slice a (enc n V).length cap,.int .i64 (n:Nat)],.int .i64 m] w (RdR n V m w)
theorem z5u (a:Option Addr) (cap m:Nat) (zs:List Int) (w:World) (hm:m=2\/m=3) (hb:Byt w a ((m:Int) :: zs)) (h1:1<=zs.length) (h2:zs.length<=64) (hcap:zs.length+1<=cap) (hO:OpnW zs none) :
  Calls Tryz.prog 59 #[.slice a (zs.length+1) cap] w (DcP none m zs w):=by
 obtain ⟨b,off,rfl,hbl,c0,hbt,hm0,hm1⟩:=hb.head1;have HC:=hO.1 _ (cap-1) w (by omega) hbt
 have HN:Hid (¬∃ bs,RbY none m zs bs):=by
  rintro ⟨bs,-,⟨h0,_⟩ | ⟨h0,_⟩ | ⟨_,q,hq,_⟩⟩
  ·omega
  ·omega
  ·cases hq
 clear hb hbt hO;have g1:¬((zs.length:Int)+1<2):=by omega
 have g2:¬((65:Int)<(zs.length:Int)+1):=by omega
 have g3:(0:Int)<(zs.length:Int)+1:=by omega
 have g6:(1:Int)<=(zs.length:Int)+1:=by omega
 have g4:¬cap=1:=by omega
 have g5:¬cap=0:=by omega
 go_enter Tryz.func59,Tryz.ntmps59
 rcases hm with rfl | rfl
 all_goals
  simp only [Int.cast_ofNat_Int] at c0
  go_wp2_with fail
  refine HC.mono ?_;clear HC;rintro e w1 ⟨a',l,cp,M,rfl,hb1⟩;have HB:Hid (Bw w w1):=hb1;have hz1:=hb1.size;clear hb1;go_wp2
  go_ret2
  refine DcP.no ?_ HN.out _ rfl;have hbb:=HB.out
  repeat (first | exact hbb | refine Below.setCell ?_ (by first | exact hz1 | (simp;omega)) _ | refine Below.alloc ?_ (by first | exact hz1 | (simp;omega)) _)
def zcr (n V m:Nat) (w W:World) (Y:Nat) (v:Value) (a2:Option Addr) (l2 c2:Nat) (M:Int) (t:Bool):Prop:=
 Below w.heap.size w W/\W.cell? ⟨Y,0,none⟩=some (.slice a2 l2 c2)/\W.cell? ⟨Y,1,none⟩=some (.int .i64 M) /\
 ((t=true/\∃ ts N U a1 c1,RdS n V m ts N U/\M=(N:Nat)/\v=.slice a1 ts.length c1/\l2=(enc N U).length/\Ins W a1 ts/\Byt W a2 (enc N U))\/(t=false/\¬∃ ts M U,RdS n V m ts M U))
theorem RdF.syt {n V m:Nat} {w w1 w2 W:World} {Y:Nat} {v:Value} {a2:Option Addr} {l2 c2:Nat} {M:Int} {t:Bool} (h:RdF n V m w1 w2 v a2 l2 c2 M t) (hb:Below w.heap.size w W) (ho:Only (fun k=>k=Y) w2 W) (hY:Y<w1.heap.size\/w2.heap.size<=Y) (c0:W.cell? ⟨Y,0,none⟩=some (.slice a2 l2 c2)) (c1:W.cell? ⟨Y,1,none⟩=some (.int .i64 M)):zcr n V m w W Y v a2 l2 c2 M t:=by
 refine ⟨hb,c0,c1,?_⟩;rcases h.2 with ⟨rfl,ts,N,U,a1,c1',h1,h2,h3,h4,h5,h6⟩ | h2
 ·exact .inl ⟨rfl,ts,N,U,a1,c1',h1,h2,h3,h4,(h5.only ho (fun k k1 k2 e=>by omega)).byt,(h6.only ho (fun k k1 k2 e=>by omega)).byt⟩
 ·exact .inr h2
theorem z09 {n V m:Nat} {zs bs:List Int} (hm:m=2\/m=3) (h:RbY (some (n,V)) m zs bs):bs.length=64/\OsY n V m bs:=by
 obtain ⟨h0,⟨h1,_⟩ | ⟨h1,_⟩ | ⟨-,q,hq,hy⟩⟩:=h
 ·omega
 ·omega
 ·cases hq
  exact ⟨h0,hy⟩
theorem z8z {n V m:Nat} {zs bs:List Int} (hm:m=2\/m=3) (h0:bs.length=64) (h:OsY n V m bs):RbY (some (n,V)) m zs bs:=⟨h0,.inr (.inr ⟨hm,(n,V),rfl,h⟩)⟩
theorem zcc (a:Option Addr) (cap:Nat) (zs:List Int) (n V:Nat) (w:World) (hb:Byt w a (((2:Nat):Int) :: zs)) (h1:1<=zs.length) (h2:zs.length<=64) (hcap:zs.length+1<=cap) (hO:OpnW zs (some (n,V))) (hR:RdC) :
  Calls Tryz.prog 59 #[.slice a (zs.length+1) cap] w (DcP (some (n,V)) 2 zs w):=by
 obtain ⟨b,off,rfl,hbl,c0,hbt,hm0,hm1⟩:=hb.head1;have HC:=hO.2.2.1 _ (cap-1) w (by omega) hbt
 have HQ:Hid (n<=4096/\V<2 ^ n/\RdC):=⟨hO.1,hO.2.1,hR⟩;clear hb hbt hO hR;have g1:¬((zs.length:Int)+1<2):=by omega
 have g2:¬((65:Int)<(zs.length:Int)+1):=by omega
 have g3:(0:Int)<(zs.length:Int)+1:=by omega
 have g6:(1:Int)<=(zs.length:Int)+1:=by omega
 have g4:¬cap=1:=by omega
 have g5:¬cap=0:=by omega
 go_enter Tryz.func59,Tryz.ntmps59
 simp only [Int.cast_ofNat_Int] at c0
 go_wp2_with fail
 refine HC.mono ?_;clear HC;rintro e w1 ⟨a',cp,rfl,hmn,hb1⟩
 dsimp only at hmn ⊢
 obtain ⟨es,hes⟩:∃ es,es=enc n V:=⟨_,rfl⟩;rw [<-hes] at hmn ⊢;have HES:Hid (es=enc n V/\Byt w1 a' es):=⟨hes,hmn.byt⟩;have HB:Hid (Below w.heap.size w w1):=hb1;have hz1:=hb1.size;have c1:w1.cell? ⟨b,off,none⟩=some (.int .u8 2):=keep hb1 hbl c0;have hbl1:b<w1.heap.size:=by omega
 clear hb1 hmn hes;have HRD:Hid (∀ W,Below w1.heap.size w1 W->Calls Tryz.prog 78 #[.agg #[.slice a' es.length cp,.int .i64 (n:Nat)],.int .i64 2] W (RdR n V 2 W)):=fun W hW=>by
  have:=HQ.out.2.2 n V 2 a' cp W HQ.out.1 HQ.out.2.1 (by omega) (by rw [<-HES.out.1];exact HES.out.2.below hW nl)
  rw [<-HES.out.1] at this;exact this
 go_wp2_with fail
 refine zj (S:=fun W=>W.cell? ⟨w1.heap.size,0,none⟩=some (.slice a' es.length cp)/\W.cell? ⟨w1.heap.size,1,none⟩=some (.int .i64 (n:Nat))/\W.cell? ⟨b,off,none⟩=some (.int .u8 2)) 14 (by kernel_rfl) (by kernel_rfl) (⟨by simp,by simp,by first | exact zb _ hbl1 c1 | (simp;exact zb _ hbl1 c1)⟩) (fun hHeld=>?_)
 refine tk 0 ?_
 try simp only [tkS]
 refine tk 1 ?_
 try simp only [tkS]
 refine tk 2 ?_
 try simp only [tkS]
 refine tk 3 ?_
 try simp only [tkS]
 refine tk 4 ?_
 try simp only [tkS]
 refine wpAnyH_ready (rs:=[5,10]) (by kernel_rfl) (by simp) ?_
 refine AllReadyH.cons rfl (fun K hK=>?_) (AllReadyH.cons rfl (fun K hK=>?_) AllReadyH.nil)
 ·go_simp
  rw [show IntKind.i64.wrap 2=2 from rfl]
  have hbD1:Below w1.heap.size w1 ((w1.alloc (Obj.cells #[.slice a' es.length cp,.int .i64 (n:Nat)] 106)).drew):=((Below.refl _ _).alloc nl _).drew;have e0:((w1.alloc (Obj.cells #[.slice a' es.length cp,.int .i64 (n:Nat)] 106)).drew).cell? ⟨w1.heap.size,0,none⟩=some (.slice a' es.length cp):=hHeld.1;have e1:((w1.alloc (Obj.cells #[.slice a' es.length cp,.int .i64 (n:Nat)] 106)).drew).cell? ⟨w1.heap.size,1,none⟩=some (.int .i64 (n:Nat)):=hHeld.2.1
  have e2:((w1.alloc (Obj.cells #[.slice a' es.length cp,.int .i64 (n:Nat)] 106)).drew).cell? ⟨b,off,none⟩=some (.int .u8 2):=hHeld.2.2;refine (HRD.out _ hbD1).mono ?_
  intro e2' w2 hr2
  obtain ⟨v,a2,l2,c2,M,t,rfl,hr3⟩:=hr2.form;have hbD:=hr3.out.1;have z2:=hbD.size
  simp only [World.size_drew,World.size_alloc] at z2
  have HB2:Hid (Below w.heap.size w w2):=HB.out.trans ((hbD1.trans (hbD.mono (by simp <;> omega))).mono hz1)
  dsimp only
  refine hK.out _ _ (⟨keep hbD (by simp <;> omega) e0,keep hbD (by simp <;> omega) e1,keep hbD (by simp <;> omega) e2⟩) (fun hHeld=>?_)
  clear hK K e0 e1 e2 hr2
  try simp only [tkS]
  refine tk 6 ?_
  try simp only [tkS]
  refine tk 7 ?_
  try simp only [tkS]
  refine tk 8 ?_
  try simp only [tkS]
  refine tk 9 ?_
  try simp only [tkS]
  have hH2:=hHeld;refine wpAnyH_ready (rs:=[10]) (by kernel_rfl) (by simp) ?_
  refine AllReadyH.cons rfl (fun K hK=>?_) AllReadyH.nil
  go_simp
  refine hK.out _ _ (⟨zb _ (by omega) hHeld.1,zb _ (by omega) hHeld.2.1,zb _ (by omega) hHeld.2.2⟩) (fun hHeld=>?_)
  clear hK K
  try simp only [tkS]
  refine wpAnyH_ready (rs:=[11]) (by kernel_rfl) (by simp) ?_
  refine AllReadyH.cons rfl (fun K hK=>?_) AllReadyH.nil
  go_simp
  refine hK.out _ _ (hHeld) (fun hHeld=>?_)
  clear hK K
  try simp only [tkS]
  refine wpAnyH_ready (rs:=[12]) (by kernel_rfl) (by simp) ?_
  refine AllReadyH.cons rfl (fun K hK=>?_) AllReadyH.nil
  go_simp
  refine hK.out _ _ (⟨zb _ (by omega) hH2.1,zb _ (by omega) hH2.2.1,zb _ (by omega) hH2.2.2⟩) (fun hHeld=>?_)
  clear hK K
  try simp only [tkS]
  refine wpAnyH_ready (rs:=[13]) (by kernel_rfl) (by simp) ?_
  refine AllReadyH.cons rfl (fun K hK=>?_) AllReadyH.nil
  go_simp
  refine hK.out _ _ (hHeld) (fun hHeld=>?_)
  clear hK K
  try simp only [tkS]
  refine wpAnyH_done (by kernel_rfl) ?_ _
  simp only [z0d,List.drop_succ_cons,List.drop_zero]
  have HBF:Hid (Below w.heap.size w (w2.alloc (Obj.cells #[.slice a2 l2 c2,.int .i64 M] 106))):=HB2.out.alloc (by omega) _
  have hOF:Only (fun k=>k=w2.heap.size) w2 (w2.alloc (Obj.cells #[.slice a2 l2 c2,.int .i64 M] 106)):=Only.alloc (Only.refl (fun k=>k=w2.heap.size) w2) _
  have hF:(w2.alloc (Obj.cells #[.slice a2 l2 c2,.int .i64 M] 106)).cell? ⟨w2.heap.size,0,none⟩=some (.slice a2 l2 c2)/\(w2.alloc (Obj.cells #[.slice a2 l2 c2,.int .i64 M] 106)).cell? ⟨w2.heap.size,1,none⟩=some (.int .i64 M):=⟨by simp,by simp⟩
  have HT:Hid (zcr n V 2 w (w2.alloc (Obj.cells #[.slice a2 l2 c2,.int .i64 M] 106)) (w2.heap.size) v a2 l2 c2 M t):=hr3.out.syt HBF.out hOF (by first | exact .inr nl | exact .inl (by simp)) (by first | exact hF.1 | simp) (by first | exact hF.2 | simp)
  clear hHeld HBF hOF hF hbD hr3 HB2 hbD1;generalize w2.alloc (Obj.cells #[.slice a2 l2 c2,.int .i64 M] 106)=W3 at *;obtain ⟨hbW,d0,d1,hcase⟩:=HT.out;clear HT;rcases hcase with ⟨rfl,ts,N,U,a1,c1',hrds,rfl,rfl,rfl,hins,hbyt⟩ | ⟨rfl,hno⟩
  ·obtain ⟨hs40,hts⟩:=hrds.rng
   have h8:=z07 V 0 8;have hNn:=hrds.le;have HUS:=z1g a1 c1' ts a2 c2 (enc N U) N U W3 hins hbyt rfl (by have:=HQ.out.1;omega) hs40 (by omega)
   have HRS:Hid (RdS n V 2 ts N U/\Below w.heap.size w W3):=⟨hrds,hbW⟩;have hzW:=hbW.size;clear hs40 hts h8 hins hbyt hrds hbW;generalize enc N U=fs at *;go_wp2_with fail
   refine HUS.mono ?_;clear HUS d0 d1;rintro e w4 ⟨hb4,hy4,hn4⟩;have HB4:Hid (Below w.heap.size w w4):=HRS.out.2.trans (hb4.mono hzW);clear hb4
   cases hu:uqF N U ts with
   | none=>
    obtain ⟨v4,rfl⟩:=hn4 hu;have HNO:Hid (¬∃ bs,RbY (some (n,V)) 2 zs bs):=by
     rintro ⟨bs,hbs⟩;obtain ⟨-,ts',M',U',ss,h1,h2,-⟩:=z09 (by omega) hbs
     obtain ⟨rfl,rfl,rfl⟩:=HRS.out.1.unique h1;rw [hu] at h2
     cases h2
    clear hy4 hn4 hu;go_wp2
    go_ret2
    exact DcP.no HB4.out HNO.out _ rfl
   | some cs=>
    obtain ⟨v4,ss,rfl,hct,hoq,hdq,hsm,hln⟩:=hy4 cs hu;obtain ⟨va,vc,rfl⟩:=hoq.form;have hsq:Sqs w4 va ss:=hoq.sqs (fun z hz=>⟨hsm.rng z hz,hdq.byt hz⟩)
    have HCS:Hid (ss.map Sq.ct=cs/\uqF N U ts=some cs):=⟨hct,hu⟩;have HK:=z1n va vc ss w4 hsq (by omega) (fun z hz=>by have:=hsm z hz;omega)
    have HSQ:Hid (Sqs w4 va ss):=hsq;clear hy4 hn4 hu hct hoq hdq hsm hsq;go_wp2_with fail
    refine HK.mono ?_;clear HK;rintro e w5 ⟨rfl,hb5⟩;have HB5:Hid (Below w.heap.size w w5):=HB4.out.trans (hb5.mono HB4.out.size);have HSQ5:Hid (Sqs w5 va ss):=HSQ.out.below hb5 nl;clear hb5 HSQ HB4
    cases hso:(sqn ss).isSome with
    | false=>
     have HNO:Hid (¬∃ bs,RbY (some (n,V)) 2 zs bs):=by
      rintro ⟨bs,hbs⟩;obtain ⟨-,ts',M',U',ss',h1,h2,h3,-⟩:=z09 (by omega) hbs
      obtain ⟨rfl,rfl,rfl⟩:=HRS.out.1.unique h1;rw [HCS.out.2] at h2;have hc:ss.map Sq.ct=ss'.map Sq.ct:=by rw [HCS.out.1];simpa using h2
      rw [<-z5z hc,hso] at h3
      cases h3
     clear hso;go_wp2
     go_ret2
     exact DcP.no HB5.out HNO.out _ rfl
    | true=>
     obtain ⟨k,hk⟩:=Option.isSome_iff_exists.1 hso;have HX:=z33 va vc ss w5 HSQ5.out k hk;have HOY:Hid (OsY n V 2 (exb ss ss.length)):=⟨ts,N,U,ss,HRS.out.1,by rw [HCS.out.2,HCS.out.1],hso,rfl⟩
     clear hso hk;obtain ⟨bs,hbs⟩:∃ bs,bs=exb ss ss.length:=⟨_,rfl⟩;rw [<-hbs] at HX HOY;clear hbs;have hz5:=HB5.out.size;go_wp2_with fail
     refine HX.mono ?_;clear HX;rintro e w6 ⟨⟨v6,rfl,hv6⟩,hb6⟩;obtain ⟨a6,c6,rfl⟩:=hv6.form;have HF:Hid (Below w.heap.size w w6/\OVB w6 w.heap.size (.slice a6 bs.length c6) bs):=by
      refine ⟨HB5.out.trans (hb6.mono hz5),⟨hv6.1.1,?_⟩,hv6.2⟩;rcases hv6.1.2 with h | ⟨g',cap',cur,he,hg,r⟩
      ·exact .inl h
      ·exact .inr ⟨g',cap',cur,he,by omega,r⟩
     clear hv6 hb6
     by_cases h64:bs.length=64
     ·have h64':((bs.length:Int) == 64)=true:=by rw [h64];rfl
      have HL:Hid (bs.length=64/\True):=⟨h64,trivial⟩;clear h64;go_wp2
      go_ret2
      refine DcP.yes HF.out.1 bs _ (z8z (by omega) HL.out.1 HOY.out) HF.out.2 ?_
      simp [HL.out.1]
     ·have h64':((bs.length:Int) == 64)=false:=by simp;omega
      have HL:Hid (¬bs.length=64):=h64;clear h64;go_wp2
      go_ret2
      refine DcP.no HF.out.1 ?_ (.slice a6 bs.length c6) ?_
      ·rintro ⟨bs',hbs'⟩
       obtain ⟨h0,hy⟩:=z09 (by omega) hbs'
       rw [hy.unique HOY.out] at h0;exact HL.out h0
      ·have h9:¬((bs.length:Int)=64):=by have:=HL.out;omega
       simp [h9]
  ·have HNO:Hid (¬∃ bs,RbY (some (n,V)) 2 zs bs):=by
    rintro ⟨bs,hbs⟩;obtain ⟨-,ts',M',U',ss,h1,-⟩:=z09 (by omega) hbs
    exact hno ⟨_,_,_,h1⟩
   have HBW:Hid (Below w.heap.size w W3):=hbW;clear hno hbW;go_wp2
   go_ret2
   exact DcP.no HBW.out HNO.out _ rfl
 ·go_simp
  refine hK.out _ _ (⟨zb _ (by simp) (by simp),zb _ (by simp) (by simp),zb _ (by simp <;> omega) (zb _ hbl1 c1)⟩) (fun hHeld=>?_)
  clear hK K
  try simp only [tkS]
  refine wpAnyH_ready (rs:=[5]) (by kernel_rfl) (by simp) ?_
  refine AllReadyH.cons rfl (fun K hK=>?_) AllReadyH.nil
  go_simp
  rw [show IntKind.i64.wrap 2=2 from rfl]
  have hbD1:Below w1.heap.size w1 (((w1.alloc (Obj.cells #[.slice a' es.length cp,.int .i64 (n:Nat)] 106)).alloc (Obj.cells #[.slice none 0 0,.int .i64 0] 106)).drew):=(((Below.refl _ _).alloc nl _).alloc (by simp) _).drew
  have e0:(((w1.alloc (Obj.cells #[.slice a' es.length cp,.int .i64 (n:Nat)] 106)).alloc (Obj.cells #[.slice none 0 0,.int .i64 0] 106)).drew).cell? ⟨w1.heap.size,0,none⟩=some (.slice a' es.length cp):=hHeld.1;have e1:(((w1.alloc (Obj.cells #[.slice a' es.length cp,.int .i64 (n:Nat)] 106)).alloc (Obj.cells #[.slice none 0 0,.int .i64 0] 106)).drew).cell? ⟨w1.heap.size,1,none⟩=some (.int .i64 (n:Nat)):=hHeld.2.1
  have e2:(((w1.alloc (Obj.cells #[.slice a' es.length cp,.int .i64 (n:Nat)] 106)).alloc (Obj.cells #[.slice none 0 0,.int .i64 0] 106)).drew).cell? ⟨b,off,none⟩=some (.int .u8 2):=hHeld.2.2;refine (HRD.out _ hbD1).mono ?_
  intro e2' w2 hr2
  obtain ⟨v,a2,l2,c2,M,t,rfl,hr3⟩:=hr2.form;have hbD:=hr3.out.1;have z2:=hbD.size
  simp only [World.size_drew,World.size_alloc] at z2
  have HB2:Hid (Below w.heap.size w w2):=HB.out.trans ((hbD1.trans (hbD.mono (by simp <;> omega))).mono hz1)
  obtain ⟨k0,k1,k2,k3⟩:=RdF.late hr3 (w1.heap.size+1) ⟨by simp,by simp,by simp,by simp,by simp⟩
  dsimp only
  refine hK.out _ _ (⟨keep hbD (by simp <;> omega) e0,keep hbD (by simp <;> omega) e1,keep hbD (by simp <;> omega) e2⟩) (fun hHeld=>?_)
  clear hK K
  try simp only [tkS]
  refine tk 6 ?_
  try simp only [tkS]
  refine tk 7 ?_
  try simp only [tkS]
  refine tk 8 ?_
  try simp only [tkS]
  refine tk 9 ?_
  try simp only [tkS]
  refine wpAnyH_ready (rs:=[11]) (by kernel_rfl) (by simp) ?_
  refine AllReadyH.cons rfl (fun K hK=>?_) AllReadyH.nil
  go_simp
  refine hK.out _ _ (hHeld) (fun hHeld=>?_)
  clear hK K
  try simp only [tkS]
  refine wpAnyH_ready (rs:=[12]) (by kernel_rfl) (by simp) ?_
  refine AllReadyH.cons rfl (fun K hK=>?_) AllReadyH.nil
  have hOS:Only (fun k=>k=w1.heap.size+1) (w2) ((w2.setCell ⟨w1.heap.size+1,0,none⟩ (.slice a2 l2 c2)).setCell ⟨w1.heap.size+1,1,none⟩ (.int .i64 M)):=Only.setCell (Only.setCell (Only.refl (fun k=>k=w1.heap.size+1) _) (p:=⟨w1.heap.size+1,0,none⟩) (.inl rfl) _) (p:=⟨w1.heap.size+1,1,none⟩) (.inl rfl) _
  go_simp
  refine hK.out _ _ (⟨hOS.cell (by first | omega | (simp <;> omega)) (by first | omega | (simp <;> omega)) hHeld.1,hOS.cell (by first | omega | (simp <;> omega)) (by first | omega | (simp <;> omega)) hHeld.2.1,hOS.cell (by first | omega | (simp <;> omega)) (by first | omega | (simp <;> omega)) hHeld.2.2⟩) (fun hHeld=>?_)
  clear hK K
  try simp only [tkS]
  refine wpAnyH_ready (rs:=[13]) (by kernel_rfl) (by simp) ?_
  refine AllReadyH.cons rfl (fun K hK=>?_) AllReadyH.nil
  go_simp
  refine hK.out _ _ (hHeld) (fun hHeld=>?_)
  clear hK K
  try simp only [tkS]
  refine wpAnyH_done (by kernel_rfl) ?_ _
  simp only [z0d,List.drop_succ_cons,List.drop_zero]
  have HBF:Hid (Below w.heap.size w ((w2.setCell ⟨w1.heap.size+1,0,none⟩ (.slice a2 l2 c2)).setCell ⟨w1.heap.size+1,1,none⟩ (.int .i64 M))):=(HB2.out.setCell (by simp <;> omega) _).setCell (by simp <;> omega) _
  have hOF:Only (fun k=>k=w1.heap.size+1) w2 ((w2.setCell ⟨w1.heap.size+1,0,none⟩ (.slice a2 l2 c2)).setCell ⟨w1.heap.size+1,1,none⟩ (.int .i64 M)):=hOS
  have hF:((w2.setCell ⟨w1.heap.size+1,0,none⟩ (.slice a2 l2 c2)).setCell ⟨w1.heap.size+1,1,none⟩ (.int .i64 M)).cell? ⟨w1.heap.size+1,0,none⟩=some (.slice a2 l2 c2)/\((w2.setCell ⟨w1.heap.size+1,0,none⟩ (.slice a2 l2 c2)).setCell ⟨w1.heap.size+1,1,none⟩ (.int .i64 M)).cell? ⟨w1.heap.size+1,1,none⟩=some (.int .i64 M):=⟨by simp [go_sem,k0,k1],by simp [go_sem,k0,k1]⟩
  have HT:Hid (zcr n V 2 w ((w2.setCell ⟨w1.heap.size+1,0,none⟩ (.slice a2 l2 c2)).setCell ⟨w1.heap.size+1,1,none⟩ (.int .i64 M)) (w1.heap.size+1) v a2 l2 c2 M t):=hr3.out.syt HBF.out hOF (by first | exact .inr nl | exact .inl (by simp)) (by first | exact hF.1 | simp) (by first | exact hF.2 | simp)
  clear hHeld HBF hOF hF hbD hr3 HB2 hbD1;generalize (w2.setCell ⟨w1.heap.size+1,0,none⟩ (.slice a2 l2 c2)).setCell ⟨w1.heap.size+1,1,none⟩ (.int .i64 M)=W3 at *;obtain ⟨hbW,d0,d1,hcase⟩:=HT.out;clear HT;rcases hcase with ⟨rfl,ts,N,U,a1,c1',hrds,rfl,rfl,rfl,hins,hbyt⟩ | ⟨rfl,hno⟩
  ·obtain ⟨hs40,hts⟩:=hrds.rng
   have h8:=z07 V 0 8;have hNn:=hrds.le;have HUS:=z1g a1 c1' ts a2 c2 (enc N U) N U W3 hins hbyt rfl (by have:=HQ.out.1;omega) hs40 (by omega)
   have HRS:Hid (RdS n V 2 ts N U/\Below w.heap.size w W3):=⟨hrds,hbW⟩;have hzW:=hbW.size;clear hs40 hts h8 hins hbyt hrds hbW;generalize enc N U=fs at *;go_wp2_with fail
   refine HUS.mono ?_;clear HUS d0 d1;rintro e w4 ⟨hb4,hy4,hn4⟩;have HB4:Hid (Below w.heap.size w w4):=HRS.out.2.trans (hb4.mono hzW);clear hb4
   cases hu:uqF N U ts with
   | none=>
    obtain ⟨v4,rfl⟩:=hn4 hu;have HNO:Hid (¬∃ bs,RbY (some (n,V)) 2 zs bs):=by
     rintro ⟨bs,hbs⟩;obtain ⟨-,ts',M',U',ss,h1,h2,-⟩:=z09 (by omega) hbs
     obtain ⟨rfl,rfl,rfl⟩:=HRS.out.1.unique h1;rw [hu] at h2
     cases h2
    clear hy4 hn4 hu;go_wp2
    go_ret2
    exact DcP.no HB4.out HNO.out _ rfl
   | some cs=>
    obtain ⟨v4,ss,rfl,hct,hoq,hdq,hsm,hln⟩:=hy4 cs hu;obtain ⟨va,vc,rfl⟩:=hoq.form;have hsq:Sqs w4 va ss:=hoq.sqs (fun z hz=>⟨hsm.rng z hz,hdq.byt hz⟩)
    have HCS:Hid (ss.map Sq.ct=cs/\uqF N U ts=some cs):=⟨hct,hu⟩;have HK:=z1n va vc ss w4 hsq (by omega) (fun z hz=>by have:=hsm z hz;omega)
    have HSQ:Hid (Sqs w4 va ss):=hsq;clear hy4 hn4 hu hct hoq hdq hsm hsq;go_wp2_with fail
    refine HK.mono ?_;clear HK;rintro e w5 ⟨rfl,hb5⟩;have HB5:Hid (Below w.heap.size w w5):=HB4.out.trans (hb5.mono HB4.out.size);have HSQ5:Hid (Sqs w5 va ss):=HSQ.out.below hb5 nl;clear hb5 HSQ HB4
    cases hso:(sqn ss).isSome with
    | false=>
     have HNO:Hid (¬∃ bs,RbY (some (n,V)) 2 zs bs):=by
      rintro ⟨bs,hbs⟩;obtain ⟨-,ts',M',U',ss',h1,h2,h3,-⟩:=z09 (by omega) hbs
      obtain ⟨rfl,rfl,rfl⟩:=HRS.out.1.unique h1;rw [HCS.out.2] at h2;have hc:ss.map Sq.ct=ss'.map Sq.ct:=by rw [HCS.out.1];simpa using h2
      rw [<-z5z hc,hso] at h3
      cases h3
     clear hso;go_wp2
     go_ret2
     exact DcP.no HB5.out HNO.out _ rfl
    | true=>
     obtain ⟨k,hk⟩:=Option.isSome_iff_exists.1 hso;have HX:=z33 va vc ss w5 HSQ5.out k hk;have HOY:Hid (OsY n V 2 (exb ss ss.length)):=⟨ts,N,U,ss,HRS.out.1,by rw [HCS.out.2,HCS.out.1],hso,rfl⟩
     clear hso hk;obtain ⟨bs,hbs⟩:∃ bs,bs=exb ss ss.length:=⟨_,rfl⟩;rw [<-hbs] at HX HOY;clear hbs;have hz5:=HB5.out.size;go_wp2_with fail
     refine HX.mono ?_;clear HX;rintro e w6 ⟨⟨v6,rfl,hv6⟩,hb6⟩;obtain ⟨a6,c6,rfl⟩:=hv6.form;have HF:Hid (Below w.heap.size w w6/\OVB w6 w.heap.size (.slice a6 bs.length c6) bs):=by
      refine ⟨HB5.out.trans (hb6.mono hz5),⟨hv6.1.1,?_⟩,hv6.2⟩;rcases hv6.1.2 with h | ⟨g',cap',cur,he,hg,r⟩
      ·exact .inl h
      ·exact .inr ⟨g',cap',cur,he,by omega,r⟩
     clear hv6 hb6
     by_cases h64:bs.length=64
     ·have h64':((bs.length:Int) == 64)=true:=by rw [h64];rfl
      have HL:Hid (bs.length=64/\True):=⟨h64,trivial⟩;clear h64;go_wp2
      go_ret2
      refine DcP.yes HF.out.1 bs _ (z8z (by omega) HL.out.1 HOY.out) HF.out.2 ?_
      simp [HL.out.1]
     ·have h64':((bs.length:Int) == 64)=false:=by simp;omega
      have HL:Hid (¬bs.length=64):=h64;clear h64;go_wp2
      go_ret2
      refine DcP.no HF.out.1 ?_ (.slice a6 bs.length c6) ?_
      ·rintro ⟨bs',hbs'⟩
       obtain ⟨h0,hy⟩:=z09 (by omega) hbs'
       rw [hy.unique HOY.out] at h0;exact HL.out h0
      ·have h9:¬((bs.length:Int)=64):=by have:=HL.out;omega
       simp [h9]
  ·have HNO:Hid (¬∃ bs,RbY (some (n,V)) 2 zs bs):=by
    rintro ⟨bs,hbs⟩;obtain ⟨-,ts',M',U',ss,h1,-⟩:=z09 (by omega) hbs
    exact hno ⟨_,_,_,h1⟩
   have HBW:Hid (Below w.heap.size w W3):=hbW;clear hno hbW;go_wp2
   go_ret2
   exact DcP.no HBW.out HNO.out _ rfl
theorem zc7 (a:Option Addr) (cap:Nat) (zs:List Int) (n V:Nat) (w:World) (hb:Byt w a (((3:Nat):Int) :: zs)) (h1:1<=zs.length) (h2:zs.length<=64) (hcap:zs.length+1<=cap) (hO:OpnW zs (some (n,V))) (hR:RdC) :
  Calls Tryz.prog 59 #[.slice a (zs.length+1) cap] w (DcP (some (n,V)) 3 zs w):=by
 obtain ⟨b,off,rfl,hbl,c0,hbt,hm0,hm1⟩:=hb.head1;have HC:=hO.2.2.1 _ (cap-1) w (by omega) hbt
 have HQ:Hid (n<=4096/\V<2 ^ n/\RdC):=⟨hO.1,hO.2.1,hR⟩;clear hb hbt hO hR;have g1:¬((zs.length:Int)+1<2):=by omega
 have g2:¬((65:Int)<(zs.length:Int)+1):=by omega
 have g3:(0:Int)<(zs.length:Int)+1:=by omega
 have g6:(1:Int)<=(zs.length:Int)+1:=by omega
 have g4:¬cap=1:=by omega
 have g5:¬cap=0:=by omega
 go_enter Tryz.func59,Tryz.ntmps59
 simp only [Int.cast_ofNat_Int] at c0
 go_wp2_with fail
 refine HC.mono ?_;clear HC;rintro e w1 ⟨a',cp,rfl,hmn,hb1⟩
 dsimp only at hmn ⊢
 obtain ⟨es,hes⟩:∃ es,es=enc n V:=⟨_,rfl⟩;rw [<-hes] at hmn ⊢;have HES:Hid (es=enc n V/\Byt w1 a' es):=⟨hes,hmn.byt⟩;have HB:Hid (Below w.heap.size w w1):=hb1;have hz1:=hb1.size;have c1:w1.cell? ⟨b,off,none⟩=some (.int .u8 3):=keep hb1 hbl c0;have hbl1:b<w1.heap.size:=by omega
 clear hb1 hmn hes;have HRD:Hid (∀ W,Below w1.heap.size w1 W->Calls Tryz.prog 78 #[.agg #[.slice a' es.length cp,.int .i64 (n:Nat)],.int .i64 3] W (RdR n V 3 W)):=fun W hW=>by
  have:=HQ.out.2.2 n V 3 a' cp W HQ.out.1 HQ.out.2.1 (by omega) (by rw [<-HES.out.1];exact HES.out.2.below hW nl)
  rw [<-HES.out.1] at this;exact this
 go_wp2_with fail
 refine zj (S:=fun W=>W.cell? ⟨w1.heap.size,0,none⟩=some (.slice a' es.length cp)/\W.cell? ⟨w1.heap.size,1,none⟩=some (.int .i64 (n:Nat))/\W.cell? ⟨b,off,none⟩=some (.int .u8 3)) 14 (by kernel_rfl) (by kernel_rfl) (⟨by simp,by simp,by first | exact zb _ hbl1 c1 | (simp;exact zb _ hbl1 c1)⟩) (fun hHeld=>?_)
 refine tk 0 ?_
 try simp only [tkS]
 refine tk 1 ?_
 try simp only [tkS]
 refine tk 2 ?_
 try simp only [tkS]
 refine tk 3 ?_
 try simp only [tkS]
 refine tk 4 ?_
 try simp only [tkS]
 refine wpAnyH_ready (rs:=[5,10]) (by kernel_rfl) (by simp) ?_
 refine AllReadyH.cons rfl (fun K hK=>?_) (AllReadyH.cons rfl (fun K hK=>?_) AllReadyH.nil)
 ·go_simp
  rw [show IntKind.i64.wrap 3=3 from rfl]
  have hbD1:Below w1.heap.size w1 ((w1.alloc (Obj.cells #[.slice a' es.length cp,.int .i64 (n:Nat)] 106)).drew):=((Below.refl _ _).alloc nl _).drew;have e0:((w1.alloc (Obj.cells #[.slice a' es.length cp,.int .i64 (n:Nat)] 106)).drew).cell? ⟨w1.heap.size,0,none⟩=some (.slice a' es.length cp):=hHeld.1;have e1:((w1.alloc (Obj.cells #[.slice a' es.length cp,.int .i64 (n:Nat)] 106)).drew).cell? ⟨w1.heap.size,1,none⟩=some (.int .i64 (n:Nat)):=hHeld.2.1
  have e2:((w1.alloc (Obj.cells #[.slice a' es.length cp,.int .i64 (n:Nat)] 106)).drew).cell? ⟨b,off,none⟩=some (.int .u8 3):=hHeld.2.2;refine (HRD.out _ hbD1).mono ?_
  intro e2' w2 hr2
  obtain ⟨v,a2,l2,c2,M,t,rfl,hr3⟩:=hr2.form;have hbD:=hr3.out.1;have z2:=hbD.size
  simp only [World.size_drew,World.size_alloc] at z2
  have HB2:Hid (Below w.heap.size w w2):=HB.out.trans ((hbD1.trans (hbD.mono (by simp <;> omega))).mono hz1)
  dsimp only
  refine hK.out _ _ (⟨keep hbD (by simp <;> omega) e0,keep hbD (by simp <;> omega) e1,keep hbD (by simp <;> omega) e2⟩) (fun hHeld=>?_)
  clear hK K e0 e1 e2 hr2
  try simp only [tkS]
  refine tk 6 ?_
  try simp only [tkS]
  refine tk 7 ?_
  try simp only [tkS]
  refine tk 8 ?_
  try simp only [tkS]
  refine tk 9 ?_
  try simp only [tkS]
  have hH2:=hHeld;refine wpAnyH_ready (rs:=[10]) (by kernel_rfl) (by simp) ?_
  refine AllReadyH.cons rfl (fun K hK=>?_) AllReadyH.nil
  go_simp
  refine hK.out _ _ (⟨zb _ (by omega) hHeld.1,zb _ (by omega) hHeld.2.1,zb _ (by omega) hHeld.2.2⟩) (fun hHeld=>?_)
  clear hK K
  try simp only [tkS]
  refine wpAnyH_ready (rs:=[11]) (by kernel_rfl) (by simp) ?_
  refine AllReadyH.cons rfl (fun K hK=>?_) AllReadyH.nil
  go_simp
  refine hK.out _ _ (hHeld) (fun hHeld=>?_)
  clear hK K
  try simp only [tkS]
  refine wpAnyH_ready (rs:=[12]) (by kernel_rfl) (by simp) ?_
  refine AllReadyH.cons rfl (fun K hK=>?_) AllReadyH.nil
  go_simp
  refine hK.out _ _ (⟨zb _ (by omega) hH2.1,zb _ (by omega) hH2.2.1,zb _ (by omega) hH2.2.2⟩) (fun hHeld=>?_)
  clear hK K
  try simp only [tkS]
  refine wpAnyH_ready (rs:=[13]) (by kernel_rfl) (by simp) ?_
  refine AllReadyH.cons rfl (fun K hK=>?_) AllReadyH.nil
  go_simp
  refine hK.out _ _ (hHeld) (fun hHeld=>?_)
  clear hK K
  try simp only [tkS]
  refine wpAnyH_done (by kernel_rfl) ?_ _
  simp only [z0d,List.drop_succ_cons,List.drop_zero]
  have HBF:Hid (Below w.heap.size w (w2.alloc (Obj.cells #[.slice a2 l2 c2,.int .i64 M] 106))):=HB2.out.alloc (by omega) _
  have hOF:Only (fun k=>k=w2.heap.size) w2 (w2.alloc (Obj.cells #[.slice a2 l2 c2,.int .i64 M] 106)):=Only.alloc (Only.refl (fun k=>k=w2.heap.size) w2) _
  have hF:(w2.alloc (Obj.cells #[.slice a2 l2 c2,.int .i64 M] 106)).cell? ⟨w2.heap.size,0,none⟩=some (.slice a2 l2 c2)/\(w2.alloc (Obj.cells #[.slice a2 l2 c2,.int .i64 M] 106)).cell? ⟨w2.heap.size,1,none⟩=some (.int .i64 M):=⟨by simp,by simp⟩
  have HT:Hid (zcr n V 3 w (w2.alloc (Obj.cells #[.slice a2 l2 c2,.int .i64 M] 106)) (w2.heap.size) v a2 l2 c2 M t):=hr3.out.syt HBF.out hOF (by first | exact .inr nl | exact .inl (by simp)) (by first | exact hF.1 | simp) (by first | exact hF.2 | simp)
  clear hHeld HBF hOF hF hbD hr3 HB2 hbD1;generalize w2.alloc (Obj.cells #[.slice a2 l2 c2,.int .i64 M] 106)=W3 at *;obtain ⟨hbW,d0,d1,hcase⟩:=HT.out;clear HT;rcases hcase with ⟨rfl,ts,N,U,a1,c1',hrds,rfl,rfl,rfl,hins,hbyt⟩ | ⟨rfl,hno⟩
  ·obtain ⟨hs40,hts⟩:=hrds.rng
   have h8:=z07 V 0 8;have hNn:=hrds.le;have HUS:=z1g a1 c1' ts a2 c2 (enc N U) N U W3 hins hbyt rfl (by have:=HQ.out.1;omega) hs40 (by omega)
   have HRS:Hid (RdS n V 3 ts N U/\Below w.heap.size w W3):=⟨hrds,hbW⟩;have hzW:=hbW.size;clear hs40 hts h8 hins hbyt hrds hbW;generalize enc N U=fs at *;go_wp2_with fail
   refine HUS.mono ?_;clear HUS d0 d1;rintro e w4 ⟨hb4,hy4,hn4⟩;have HB4:Hid (Below w.heap.size w w4):=HRS.out.2.trans (hb4.mono hzW);clear hb4
   cases hu:uqF N U ts with
   | none=>
    obtain ⟨v4,rfl⟩:=hn4 hu;have HNO:Hid (¬∃ bs,RbY (some (n,V)) 3 zs bs):=by
     rintro ⟨bs,hbs⟩;obtain ⟨-,ts',M',U',ss,h1,h2,-⟩:=z09 (by omega) hbs
     obtain ⟨rfl,rfl,rfl⟩:=HRS.out.1.unique h1;rw [hu] at h2
     cases h2
    clear hy4 hn4 hu;go_wp2
    go_ret2
    exact DcP.no HB4.out HNO.out _ rfl
   | some cs=>
    obtain ⟨v4,ss,rfl,hct,hoq,hdq,hsm,hln⟩:=hy4 cs hu;obtain ⟨va,vc,rfl⟩:=hoq.form;have hsq:Sqs w4 va ss:=hoq.sqs (fun z hz=>⟨hsm.rng z hz,hdq.byt hz⟩)
    have HCS:Hid (ss.map Sq.ct=cs/\uqF N U ts=some cs):=⟨hct,hu⟩;have HK:=z1n va vc ss w4 hsq (by omega) (fun z hz=>by have:=hsm z hz;omega)
    have HSQ:Hid (Sqs w4 va ss):=hsq;clear hy4 hn4 hu hct hoq hdq hsm hsq;go_wp2_with fail
    refine HK.mono ?_;clear HK;rintro e w5 ⟨rfl,hb5⟩;have HB5:Hid (Below w.heap.size w w5):=HB4.out.trans (hb5.mono HB4.out.size);have HSQ5:Hid (Sqs w5 va ss):=HSQ.out.below hb5 nl;clear hb5 HSQ HB4
    cases hso:(sqn ss).isSome with
    | false=>
     have HNO:Hid (¬∃ bs,RbY (some (n,V)) 3 zs bs):=by
      rintro ⟨bs,hbs⟩;obtain ⟨-,ts',M',U',ss',h1,h2,h3,-⟩:=z09 (by omega) hbs
      obtain ⟨rfl,rfl,rfl⟩:=HRS.out.1.unique h1;rw [HCS.out.2] at h2;have hc:ss.map Sq.ct=ss'.map Sq.ct:=by rw [HCS.out.1];simpa using h2
      rw [<-z5z hc,hso] at h3
      cases h3
     clear hso;go_wp2
     go_ret2
     exact DcP.no HB5.out HNO.out _ rfl
    | true=>
     obtain ⟨k,hk⟩:=Option.isSome_iff_exists.1 hso;have HX:=z33 va vc ss w5 HSQ5.out k hk;have HOY:Hid (OsY n V 3 (exb ss ss.length)):=⟨ts,N,U,ss,HRS.out.1,by rw [HCS.out.2,HCS.out.1],hso,rfl⟩
     clear hso hk;obtain ⟨bs,hbs⟩:∃ bs,bs=exb ss ss.length:=⟨_,rfl⟩;rw [<-hbs] at HX HOY;clear hbs;have hz5:=HB5.out.size;go_wp2_with fail
     refine HX.mono ?_;clear HX;rintro e w6 ⟨⟨v6,rfl,hv6⟩,hb6⟩;obtain ⟨a6,c6,rfl⟩:=hv6.form;have HF:Hid (Below w.heap.size w w6/\OVB w6 w.heap.size (.slice a6 bs.length c6) bs):=by
      refine ⟨HB5.out.trans (hb6.mono hz5),⟨hv6.1.1,?_⟩,hv6.2⟩;rcases hv6.1.2 with h | ⟨g',cap',cur,he,hg,r⟩
      ·exact .inl h
      ·exact .inr ⟨g',cap',cur,he,by omega,r⟩
     clear hv6 hb6
     by_cases h64:bs.length=64
     ·have h64':((bs.length:Int) == 64)=true:=by rw [h64];rfl
      have HL:Hid (bs.length=64/\True):=⟨h64,trivial⟩;clear h64;go_wp2
      go_ret2
      refine DcP.yes HF.out.1 bs _ (z8z (by omega) HL.out.1 HOY.out) HF.out.2 ?_
      simp [HL.out.1]
     ·have h64':((bs.length:Int) == 64)=false:=by simp;omega
      have HL:Hid (¬bs.length=64):=h64;clear h64;go_wp2
      go_ret2
      refine DcP.no HF.out.1 ?_ (.slice a6 bs.length c6) ?_
      ·rintro ⟨bs',hbs'⟩
       obtain ⟨h0,hy⟩:=z09 (by omega) hbs'
       rw [hy.unique HOY.out] at h0;exact HL.out h0
      ·have h9:¬((bs.length:Int)=64):=by have:=HL.out;omega
       simp [h9]
  ·have HNO:Hid (¬∃ bs,RbY (some (n,V)) 3 zs bs):=by
    rintro ⟨bs,hbs⟩;obtain ⟨-,ts',M',U',ss,h1,-⟩:=z09 (by omega) hbs
    exact hno ⟨_,_,_,h1⟩
   have HBW:Hid (Below w.heap.size w W3):=hbW;clear hno hbW;go_wp2
   go_ret2
   exact DcP.no HBW.out HNO.out _ rfl
 ·go_simp
  refine hK.out _ _ (⟨zb _ (by simp) (by simp),zb _ (by simp) (by simp),zb _ (by simp <;> omega) (zb _ hbl1 c1)⟩) (fun hHeld=>?_)
  clear hK K
  try simp only [tkS]
  refine wpAnyH_ready (rs:=[5]) (by kernel_rfl) (by simp) ?_
  refine AllReadyH.cons rfl (fun K hK=>?_) AllReadyH.nil
  go_simp
  rw [show IntKind.i64.wrap 3=3 from rfl]
  have hbD1:Below w1.heap.size w1 (((w1.alloc (Obj.cells #[.slice a' es.length cp,.int .i64 (n:Nat)] 106)).alloc (Obj.cells #[.slice none 0 0,.int .i64 0] 106)).drew):=(((Below.refl _ _).alloc nl _).alloc (by simp) _).drew
  have e0:(((w1.alloc (Obj.cells #[.slice a' es.length cp,.int .i64 (n:Nat)] 106)).alloc (Obj.cells #[.slice none 0 0,.int .i64 0] 106)).drew).cell? ⟨w1.heap.size,0,none⟩=some (.slice a' es.length cp):=hHeld.1;have e1:(((w1.alloc (Obj.cells #[.slice a' es.length cp,.int .i64 (n:Nat)] 106)).alloc (Obj.cells #[.slice none 0 0,.int .i64 0] 106)).drew).cell? ⟨w1.heap.size,1,none⟩=some (.int .i64 (n:Nat)):=hHeld.2.1
  have e2:(((w1.alloc (Obj.cells #[.slice a' es.length cp,.int .i64 (n:Nat)] 106)).alloc (Obj.cells #[.slice none 0 0,.int .i64 0] 106)).drew).cell? ⟨b,off,none⟩=some (.int .u8 3):=hHeld.2.2;refine (HRD.out _ hbD1).mono ?_
  intro e2' w2 hr2
  obtain ⟨v,a2,l2,c2,M,t,rfl,hr3⟩:=hr2.form;have hbD:=hr3.out.1;have z2:=hbD.size
  simp only [World.size_drew,World.size_alloc] at z2
  have HB2:Hid (Below w.heap.size w w2):=HB.out.trans ((hbD1.trans (hbD.mono (by simp <;> omega))).mono hz1)
  obtain ⟨k0,k1,k2,k3⟩:=RdF.late hr3 (w1.heap.size+1) ⟨by simp,by simp,by simp,by simp,by simp⟩
  dsimp only
  refine hK.out _ _ (⟨keep hbD (by simp <;> omega) e0,keep hbD (by simp <;> omega) e1,keep hbD (by simp <;> omega) e2⟩) (fun hHeld=>?_)
  clear hK K
  try simp only [tkS]
  refine tk 6 ?_
  try simp only [tkS]
  refine tk 7 ?_
  try simp only [tkS]
  refine tk 8 ?_
  try simp only [tkS]
  refine tk 9 ?_
  try simp only [tkS]
  refine wpAnyH_ready (rs:=[11]) (by kernel_rfl) (by simp) ?_
  refine AllReadyH.cons rfl (fun K hK=>?_) AllReadyH.nil
  go_simp
  refine hK.out _ _ (hHeld) (fun hHeld=>?_)
  clear hK K
  try simp only [tkS]
  refine wpAnyH_ready (rs:=[12]) (by kernel_rfl) (by simp) ?_
  refine AllReadyH.cons rfl (fun K hK=>?_) AllReadyH.nil
  have hOS:Only (fun k=>k=w1.heap.size+1) (w2) ((w2.setCell ⟨w1.heap.size+1,0,none⟩ (.slice a2 l2 c2)).setCell ⟨w1.heap.size+1,1,none⟩ (.int .i64 M)):=Only.setCell (Only.setCell (Only.refl (fun k=>k=w1.heap.size+1) _) (p:=⟨w1.heap.size+1,0,none⟩) (.inl rfl) _) (p:=⟨w1.heap.size+1,1,none⟩) (.inl rfl) _
  go_simp
  refine hK.out _ _ (⟨hOS.cell (by first | omega | (simp <;> omega)) (by first | omega | (simp <;> omega)) hHeld.1,hOS.cell (by first | omega | (simp <;> omega)) (by first | omega | (simp <;> omega)) hHeld.2.1,hOS.cell (by first | omega | (simp <;> omega)) (by first | omega | (simp <;> omega)) hHeld.2.2⟩) (fun hHeld=>?_)
  clear hK K
  try simp only [tkS]
  refine wpAnyH_ready (rs:=[13]) (by kernel_rfl) (by simp) ?_
  refine AllReadyH.cons rfl (fun K hK=>?_) AllReadyH.nil
  go_simp
  refine hK.out _ _ (hHeld) (fun hHeld=>?_)
  clear hK K
  try simp only [tkS]
  refine wpAnyH_done (by kernel_rfl) ?_ _
  simp only [z0d,List.drop_succ_cons,List.drop_zero]
  have HBF:Hid (Below w.heap.size w ((w2.setCell ⟨w1.heap.size+1,0,none⟩ (.slice a2 l2 c2)).setCell ⟨w1.heap.size+1,1,none⟩ (.int .i64 M))):=(HB2.out.setCell (by simp <;> omega) _).setCell (by simp <;> omega) _
  have hOF:Only (fun k=>k=w1.heap.size+1) w2 ((w2.setCell ⟨w1.heap.size+1,0,none⟩ (.slice a2 l2 c2)).setCell ⟨w1.heap.size+1,1,none⟩ (.int .i64 M)):=hOS
  have hF:((w2.setCell ⟨w1.heap.size+1,0,none⟩ (.slice a2 l2 c2)).setCell ⟨w1.heap.size+1,1,none⟩ (.int .i64 M)).cell? ⟨w1.heap.size+1,0,none⟩=some (.slice a2 l2 c2)/\((w2.setCell ⟨w1.heap.size+1,0,none⟩ (.slice a2 l2 c2)).setCell ⟨w1.heap.size+1,1,none⟩ (.int .i64 M)).cell? ⟨w1.heap.size+1,1,none⟩=some (.int .i64 M):=⟨by simp [go_sem,k0,k1],by simp [go_sem,k0,k1]⟩
  have HT:Hid (zcr n V 3 w ((w2.setCell ⟨w1.heap.size+1,0,none⟩ (.slice a2 l2 c2)).setCell ⟨w1.heap.size+1,1,none⟩ (.int .i64 M)) (w1.heap.size+1) v a2 l2 c2 M t):=hr3.out.syt HBF.out hOF (by first | exact .inr nl | exact .inl (by simp)) (by first | exact hF.1 | simp) (by first | exact hF.2 | simp)
  clear hHeld HBF hOF hF hbD hr3 HB2 hbD1;generalize (w2.setCell ⟨w1.heap.size+1,0,none⟩ (.slice a2 l2 c2)).setCell ⟨w1.heap.size+1,1,none⟩ (.int .i64 M)=W3 at *;obtain ⟨hbW,d0,d1,hcase⟩:=HT.out;clear HT;rcases hcase with ⟨rfl,ts,N,U,a1,c1',hrds,rfl,rfl,rfl,hins,hbyt⟩ | ⟨rfl,hno⟩
  ·obtain ⟨hs40,hts⟩:=hrds.rng
   have h8:=z07 V 0 8;have hNn:=hrds.le;have HUS:=z1g a1 c1' ts a2 c2 (enc N U) N U W3 hins hbyt rfl (by have:=HQ.out.1;omega) hs40 (by omega)
   have HRS:Hid (RdS n V 3 ts N U/\Below w.heap.size w W3):=⟨hrds,hbW⟩;have hzW:=hbW.size;clear hs40 hts h8 hins hbyt hrds hbW;generalize enc N U=fs at *;go_wp2_with fail
   refine HUS.mono ?_;clear HUS d0 d1;rintro e w4 ⟨hb4,hy4,hn4⟩;have HB4:Hid (Below w.heap.size w w4):=HRS.out.2.trans (hb4.mono hzW);clear hb4
   cases hu:uqF N U ts with
   | none=>
    obtain ⟨v4,rfl⟩:=hn4 hu;have HNO:Hid (¬∃ bs,RbY (some (n,V)) 3 zs bs):=by
     rintro ⟨bs,hbs⟩;obtain ⟨-,ts',M',U',ss,h1,h2,-⟩:=z09 (by omega) hbs
     obtain ⟨rfl,rfl,rfl⟩:=HRS.out.1.unique h1;rw [hu] at h2
     cases h2
    clear hy4 hn4 hu;go_wp2
    go_ret2
    exact DcP.no HB4.out HNO.out _ rfl
   | some cs=>
    obtain ⟨v4,ss,rfl,hct,hoq,hdq,hsm,hln⟩:=hy4 cs hu;obtain ⟨va,vc,rfl⟩:=hoq.form;have hsq:Sqs w4 va ss:=hoq.sqs (fun z hz=>⟨hsm.rng z hz,hdq.byt hz⟩)
    have HCS:Hid (ss.map Sq.ct=cs/\uqF N U ts=some cs):=⟨hct,hu⟩;have HK:=z1n va vc ss w4 hsq (by omega) (fun z hz=>by have:=hsm z hz;omega)
    have HSQ:Hid (Sqs w4 va ss):=hsq;clear hy4 hn4 hu hct hoq hdq hsm hsq;go_wp2_with fail
    refine HK.mono ?_;clear HK;rintro e w5 ⟨rfl,hb5⟩;have HB5:Hid (Below w.heap.size w w5):=HB4.out.trans (hb5.mono HB4.out.size);have HSQ5:Hid (Sqs w5 va ss):=HSQ.out.below hb5 nl;clear hb5 HSQ HB4
    cases hso:(sqn ss).isSome with
    | false=>
     have HNO:Hid (¬∃ bs,RbY (some (n,V)) 3 zs bs):=by
      rintro ⟨bs,hbs⟩;obtain ⟨-,ts',M',U',ss',h1,h2,h3,-⟩:=z09 (by omega) hbs
      obtain ⟨rfl,rfl,rfl⟩:=HRS.out.1.unique h1;rw [HCS.out.2] at h2;have hc:ss.map Sq.ct=ss'.map Sq.ct:=by rw [HCS.out.1];simpa using h2
      rw [<-z5z hc,hso] at h3
      cases h3
     clear hso;go_wp2
     go_ret2
     exact DcP.no HB5.out HNO.out _ rfl
    | true=>
     obtain ⟨k,hk⟩:=Option.isSome_iff_exists.1 hso;have HX:=z33 va vc ss w5 HSQ5.out k hk;have HOY:Hid (OsY n V 3 (exb ss ss.length)):=⟨ts,N,U,ss,HRS.out.1,by rw [HCS.out.2,HCS.out.1],hso,rfl⟩
     clear hso hk;obtain ⟨bs,hbs⟩:∃ bs,bs=exb ss ss.length:=⟨_,rfl⟩;rw [<-hbs] at HX HOY;clear hbs;have hz5:=HB5.out.size;go_wp2_with fail
     refine HX.mono ?_;clear HX;rintro e w6 ⟨⟨v6,rfl,hv6⟩,hb6⟩;obtain ⟨a6,c6,rfl⟩:=hv6.form;have HF:Hid (Below w.heap.size w w6/\OVB w6 w.heap.size (.slice a6 bs.length c6) bs):=by
      refine ⟨HB5.out.trans (hb6.mono hz5),⟨hv6.1.1,?_⟩,hv6.2⟩;rcases hv6.1.2 with h | ⟨g',cap',cur,he,hg,r⟩
      ·exact .inl h
      ·exact .inr ⟨g',cap',cur,he,by omega,r⟩
     clear hv6 hb6
     by_cases h64:bs.length=64
     ·have h64':((bs.length:Int) == 64)=true:=by rw [h64];rfl
      have HL:Hid (bs.length=64/\True):=⟨h64,trivial⟩;clear h64;go_wp2
      go_ret2
      refine DcP.yes HF.out.1 bs _ (z8z (by omega) HL.out.1 HOY.out) HF.out.2 ?_
      simp [HL.out.1]
     ·have h64':((bs.length:Int) == 64)=false:=by simp;omega
      have HL:Hid (¬bs.length=64):=h64;clear h64;go_wp2
      go_ret2
      refine DcP.no HF.out.1 ?_ (.slice a6 bs.length c6) ?_
      ·rintro ⟨bs',hbs'⟩
       obtain ⟨h0,hy⟩:=z09 (by omega) hbs'
       rw [hy.unique HOY.out] at h0;exact HL.out h0
      ·have h9:¬((bs.length:Int)=64):=by have:=HL.out;omega
       simp [h9]
  ·have HNO:Hid (¬∃ bs,RbY (some (n,V)) 3 zs bs):=by
    rintro ⟨bs,hbs⟩;obtain ⟨-,ts',M',U',ss,h1,-⟩:=z09 (by omega) hbs
    exact hno ⟨_,_,_,h1⟩
   have HBW:Hid (Below w.heap.size w W3):=hbW;clear hno hbW;go_wp2
   go_ret2
   exact DcP.no HBW.out HNO.out _ rfl
end Go.Proofs.YtjmcjbmjgpponaaGreatDoor
