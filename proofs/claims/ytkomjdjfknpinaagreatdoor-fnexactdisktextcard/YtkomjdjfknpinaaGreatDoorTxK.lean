import Derived.Shelf.Strconv.AppendIntPublic10
import Derived.Lib.ItoaMem
import Derived.Lib.ItoaLen
import Derived.Lib.AppendStr
import Derived.Test.YtkomjdjfknpinaaGreatDoorRwC
set_option maxRecDepth 20000
set_option maxHeartbeats 16000000
namespace Go.Proofs.YtkomjdjfknpinaaGreatDoor
open Go.RowKit
set_option linter.unusedVariables false
set_option linter.unusedSimpArgs false
def CkK (f:List Int->Option (List Int)) (d:DkV) (v:Int):Prop:=(∃ k:Nat,k<d.ms.length/\v=k/\CtR f d k none/\∀ j,j<k->∃ ls,CtR f d j (some ls))\/(v=-1/\∀ j,j<d.ms.length->∃ ls,CtR f d j (some ls))
def CkR (f:List Int->Option (List Int)) (d:DkV) (v:Int):Prop:=(DkG f d/\CkK f d v)\/(¬DkG f d/\v=-2)
def LvS (f:List Int->Option (List Int)) (d:DkV):Nat->Int->Prop
 | 0,v=>v=0
 | k+1,v=>∃ (u:Int) (o:Option (List Int)),LvS f d k u/\CtR f d k o/\v=u+((o.getD []).length:Nat)
def LbR (f:List Int->Option (List Int)) (d:DkV) (v:Int):Prop:=(DkG f d/\LvS f d d.ms.length v)\/(¬DkG f d/\v=0)
theorem CtR.short {f:List Int->Option (List Int)} {d:DkV} {x:Nat} {o:Option (List Int)} (hG:DkG f d) (h:CtR f d x o):(o.getD []).length<=256:=by
 rcases h with ⟨k,h1,h2,h3,rfl⟩ | ⟨h1,⟨h2,rfl⟩ | ⟨h2,⟨h3,rfl⟩ | ⟨h3,rfl⟩⟩⟩
 ·have h4:=hG.op.sz
  have h5:=z0c (zf h1);unfold szP at h4
  simp only [Option.getD_some]
  omega
 ·simp
 ·have h4:=h3.1.ok.sz
  have h5:=z0c (zf (es:=itL (ctZ d x) (rpM (ctZ d x)) (rpM (ctZ d x))) (k:=ctI d x) (by rw [z0p];exact h3.2.1))
  rw [z72 _ _ h3.2.1] at h5;unfold szP at h4
  simp only [Option.getD_some]
  unfold ctE
  omega
 ·simp
end Go.Proofs.YtkomjdjfknpinaaGreatDoor
namespace Go.Proofs
open Go.Shelf
def Tryz.laysAI_ren :Go.Shelf.Ren:=⟨fun | 176=>60 | 249=>90 | 288=>107 | 283=>121 | 284=>122 | 285=>123 | 286=>124 | 129=>143 | 317=>142 | 318=>144 | 319=>145 | 320=>146 | 337=>164 | 338=>165 | n=>n,fun | 37=>36 | 2=>2 | 3=>3 | 53=>155 | 4=>4 | 9=>9 | 171=>178 | 0=>0 | 173=>181 | 212=>206 | 51=>207 | 5=>5 | 20=>20 | 213=>208 | 46=>146 | 232=>238 | 233=>239 | n=>n,fun | 17=>1 | 18=>6 | 19=>7 | n=>n⟩
theorem Tryz.laysAI :Go.Proofs.LaysM.n176 Tryz.prog Tryz.laysAI_ren:={
 mixed:=by kernel_rfl
 f129:=Tryz.func143.trans (congrArg some (by kernel_rfl))
 f176:=Tryz.func60.trans (congrArg some (by kernel_rfl))
 f249:=Tryz.func90.trans (congrArg some (by kernel_rfl))
 f283:=Tryz.func121.trans (congrArg some (by kernel_rfl))
 f284:=Tryz.func122.trans (congrArg some (by kernel_rfl))
 f285:=Tryz.func123.trans (congrArg some (by kernel_rfl))
 f286:=Tryz.func124.trans (congrArg some (by kernel_rfl))
 f288:=Tryz.func107.trans (congrArg some (by kernel_rfl))
 f317:=Tryz.func142.trans (congrArg some (by kernel_rfl))
 f318:=Tryz.func144.trans (congrArg some (by kernel_rfl))
 f319:=Tryz.func145.trans (congrArg some (by kernel_rfl))
 f320:=Tryz.func146.trans (congrArg some (by kernel_rfl))
 f337:=Tryz.func164.trans (congrArg some (by kernel_rfl))
 f338:=Tryz.func165.trans (congrArg some (by kernel_rfl))
 t0:=Tryz.underlying0
 a0:=Tryz.isAgg0
 z0:=Tryz.sizeOf0
 v0:=Tryz.zeroValue0
 t2:=Tryz.underlying2
 a2:=Tryz.isAgg2
 z2:=Tryz.sizeOf2
 v2:=Tryz.zeroValue2
 t3:=Tryz.underlying3
 a3:=Tryz.isAgg3
 z3:=Tryz.sizeOf3
 v3:=Tryz.zeroValue3
 t4:=Tryz.underlying4
 a4:=Tryz.isAgg4
 z4:=Tryz.sizeOf4
 v4:=Tryz.zeroValue4
 t5:=Tryz.underlying5
 a5:=Tryz.isAgg5
 z5:=Tryz.sizeOf5
 v5:=Tryz.zeroValue5
 t9:=Tryz.underlying9
 a9:=Tryz.isAgg9
 z9:=Tryz.sizeOf9
 v9:=Tryz.zeroValue9
 t20:=Tryz.underlying20
 a20:=Tryz.isAgg20
 z20:=Tryz.sizeOf20
 v20:=Tryz.zeroValue20
 t37:=Tryz.underlying36
 a37:=Tryz.isAgg36
 z37:=Tryz.sizeOf36
 v37:=Tryz.zeroValue36
 t46:=Tryz.underlying146
 a46:=Tryz.isAgg146
 z46:=Tryz.sizeOf146
 v46:=Tryz.zeroValue146
 t51:=Tryz.underlying207
 a51:=Tryz.isAgg207
 z51:=Tryz.sizeOf207
 v51:=Tryz.zeroValue207
 t53:=Tryz.underlying155
 a53:=Tryz.isAgg155
 z53:=Tryz.sizeOf155
 v53:=Tryz.zeroValue155
 t171:=Tryz.underlying178
 a171:=Tryz.isAgg178
 z171:=Tryz.sizeOf178
 v171:=Tryz.zeroValue178
 t173:=Tryz.underlying181
 a173:=Tryz.isAgg181
 z173:=Tryz.sizeOf181
 v173:=Tryz.zeroValue181
 t212:=Tryz.underlying206
 a212:=Tryz.isAgg206
 z212:=Tryz.sizeOf206
 v212:=Tryz.zeroValue206
 t213:=Tryz.underlying208
 a213:=Tryz.isAgg208
 z213:=Tryz.sizeOf208
 t232:=Tryz.underlying238
 a232:=Tryz.isAgg238
 z232:=Tryz.sizeOf238
 v232:=Tryz.zeroValue238
 t233:=Tryz.underlying239
 a233:=Tryz.isAgg239
 z233:=Tryz.sizeOf239
 v233:=Tryz.zeroValue239
 g17:=by kernel_rfl
 g18:=by kernel_rfl
 g19:=by kernel_rfl
 i0:=by kernel_rfl
 i2:=by kernel_rfl
 i3:=by kernel_rfl
 i4:=by kernel_rfl
 i5:=by kernel_rfl
 i9:=by kernel_rfl
 i20:=by kernel_rfl
 i37:=by kernel_rfl
 i46:=by kernel_rfl
 i51:=by kernel_rfl
 i53:=by kernel_rfl
 i171:=by kernel_rfl
 i173:=by kernel_rfl
 i212:=by kernel_rfl
 i232:=by kernel_rfl
 i233:=by kernel_rfl
 m17:=by kernel_rfl
 m18:=by kernel_rfl
 m19:=by kernel_rfl }
end Go.Proofs
namespace Go.Proofs.YtkomjdjfknpinaaGreatDoor
open Go.RowKit
set_option linter.unusedVariables false
set_option linter.unusedSimpArgs false
def dgs (n:Nat):List Int:=(Lib.decDigits n).map fun b=>(b.toNat:Int)
theorem zm6 {n:Nat} (h:n<10):dgs n=[48+(n:Int)]:=by
 have h1:(UInt8.ofNat (48+n)).toNat=48+n:=by
  rw [UInt8.toNat_ofNat']
  omega
 rw [dgs,Lib.decDigits_one h]
 simp only [List.map_cons,List.map_nil,h1]
 simp
theorem zlo {n:Nat} (h:¬n<10):dgs n=dgs (n / 10)++[48+((n % 10:Nat):Int)]:=by
 have h1:(UInt8.ofNat (48+n % 10)).toNat=48+n % 10:=by
  rw [UInt8.toNat_ofNat']
  omega
 rw [dgs,Lib.decDigits,dif_neg h,List.map_append]
 simp only [List.map_cons,List.map_nil,h1]
 simp [dgs]
theorem z6d {n:Nat} (h:n<=9223372036854775807):(dgs n).length<=20:=by
 rw [dgs,List.length_map,Lib.decDigits_length];exact Lib.nDigits_le20 n (by omega)
theorem zn3 (n:Nat):∀ z ∈ dgs n,0<=z/\z<=255:=by
 intro z hz
 simp only [dgs,List.mem_map] at hz
 obtain ⟨b,-,rfl⟩:=hz;have:=b.toNat_lt
 omega
def z04 :List Nat->List Int
 | []=>[]
 | n :: l=>32 :: (dgs n++z04 l)
theorem za8 (l:List Nat) (n:Nat):z04 (l++[n])=z04 l++32 :: dgs n:=by
 induction l with
 | nil=>simp [z04]
 | cons m l ih=>simp [z04,ih]
theorem z2v (l:List Nat) (h:∀ n ∈ l,n<=9223372036854775807):(z04 l).length<=21*l.length:=by
 induction l with
 | nil=>simp [z04]
 | cons m l ih=>
  have h1:=z6d (h m (by simp))
  have h2:=ih (fun n hn=>h n (by simp [hn]))
  simp only [z04,List.length_cons,List.length_append]
  omega
def lin (b:List Int) (w:List Int) (l:List Nat):List Int:=b++w++z04 l++[10]
def tS (s:ByteArray):List Int:=s.data.toList.map fun b=>(b.toNat:Int)
theorem z1y (s:ByteArray):(tS s).length=s.size:=by rw [tS,List.length_map,Array.length_toList];rfl
theorem zjv (s:ByteArray):(tS s).map (Value.int .u8)=Lib.strCells s:=by simp [tS,Lib.strCells,Function.comp_def]
theorem zo8 (s:ByteArray):∀ z ∈ tS s,0<=z/\z<=255:=by
 intro z hz
 simp only [tS,List.mem_map] at hz
 obtain ⟨b,-,rfl⟩:=hz;have:=b.toNat_lt
 omega
theorem zg2 {w w':World} {B:Nat} {v v':Value} {zs:List Int} {s:ByteArray} (h:OVB w B v zs) (h2:w'.ownsRow B 5 1 v' (zs.length+s.size) (zs.map (Value.int .u8)++Lib.strCells s)):OVB w' B v' (zs++tS s):=by
 refine ⟨?_,fun z hz=>(List.mem_append.1 hz).elim (h.2 z) (zo8 s z)⟩
 rw [List.map_append,zjv,List.length_append,z1y];exact h2
def TagI (w:World) (a:Option Addr):Prop:=∀ x,a=some x->x.block<w.heap.size/\∃ c q,w.heap[x.block]?=some (.cells c 3 q)
theorem OVB.tag {w:World} {B:Nat} {v:Value} {zs:List Int} (h:OVB w B v zs) {k:Nat} (hk:v.ownBlock=some k):k<w.heap.size/\∃ c q,w.heap[k]?=some (.cells c 5 q):=by
 rcases h.1.2 with ⟨rfl,h0⟩ | ⟨g,cap,cur,rfl,hg,hh,r⟩
 ·simp [Value.ownBlock] at hk
 ·simp [Value.ownBlock] at hk
  subst hk;exact ⟨(Array.getElem?_eq_some_iff.1 hh).1,_,_,hh⟩
theorem TagI.ne {w:World} {B:Nat} {v:Value} {zs:List Int} {a:Option Addr} (t:TagI w a) (h:OVB w B v zs) {x:Addr} (hx:a=some x):some x.block≠v.ownBlock:=by
 intro e
 obtain ⟨_,c,q,h1⟩:=t x hx;obtain ⟨_,c',q',h2⟩:=h.tag e.symm;rw [h1] at h2
 simp at h2
structure TxO (w0 W:World) (B:Nat) (v:Value) (xs:List Int) (a:Option Addr) (ln:List Int):Prop where
 o:OVB W B v xs
 size:B<=W.heap.size
 bel:Below B w0 W
 li:Ins W a ln
 tag:TagI W a
section
variable {w0 W W' : World} {B : Nat} {v v' : Value} {xs ys : List Int} {a : Option Addr} {ln : List Int}
theorem TxO.step (h:TxO w0 W B v xs a ln) (hb:Below W.heap.size W W'):TxO w0 W' B v xs a ln:=
 ⟨h.o.below hb,Nat.le_trans h.size hb.size,h.bel.trans (hb.mono h.size),h.li.below hb nl,fun x hx=>by
  obtain ⟨h1,c,q,h2⟩:=h.tag x hx;exact ⟨Nat.lt_of_lt_of_le h1 hb.size,c,q,(hb.block _ h1).trans h2⟩⟩
theorem TxO.alloc (h:TxO w0 W B v xs a ln) (o:Obj):TxO w0 (W.alloc o) B v xs a ln:=h.step ((Below.refl W.heap.size W).alloc nl o)
theorem TxO.app (h:TxO w0 W B v xs a ln) (ho:OVB W' B v' ys) (hg:W.grownBy W' v.ownBlock):TxO w0 W' B v' ys a ln:=by
 refine ⟨ho,Nat.le_trans h.size hg.size,h.bel.grown hg h.size (fun k hk=>h.o.blk hk),⟨h.li.1,fun h0=>?_⟩,fun x hx=>?_⟩
 ·obtain ⟨b,off,rfl,hb,hc⟩:=h.li.2 h0
  exact ⟨b,off,rfl,Nat.lt_of_lt_of_le hb hg.size,fun i hi=>(World.cell?_of_block (w:=W) (hg.block b hb (h.tag.ne h.o rfl))).trans (hc i hi)⟩
 ·obtain ⟨h1,c,q,h2⟩:=h.tag x hx
  exact ⟨Nat.lt_of_lt_of_le h1 hg.size,c,q,(hg.block _ h1 (h.tag.ne h.o hx)).trans h2⟩
theorem TxO.kept {b o:Nat} {u:Value} (h:TxO w0 W B v xs (some ⟨b,o,none⟩) ln) (ho:OVB W' B v' ys) (hg:W.grownBy W' v.ownBlock) {o':Nat} (hc:W.cell? ⟨b,o',none⟩=some u):W'.cell? ⟨b,o',none⟩=some u:=
 (World.cell?_of_block (w:=W) (hg.block b (World.block_lt_of_cell? _ _ hc) (h.tag.ne h.o rfl))).trans hc
theorem TxO.lt (h:TxO w0 W B v xs a ln) {k:Nat} (hk:v.ownBlock=some k):k<W.heap.size:=(h.o.tag hk).1
end
theorem OVB.one (w:World) (B:Nat) (hB:B<=w.heap.size) (z:Int) (hz:0<=z/\z<=255):OVB (w.alloc (Obj.cells #[.int .u8 z] 5)) B (.slice (some ⟨w.heap.size,0,none⟩) 1 1) [z]:=
 ⟨⟨rfl,.inr ⟨w.heap.size,1,#[.int .u8 z],rfl,hB,z40 w _,Nat.le_refl _,by first | rfl | simp | decide,rfl,rfl⟩⟩,by intro y hy;simp at hy;rw [hy];exact hz⟩
theorem zbx (n:Nat):∀ (w:World),n<=9223372036854775807 ->
  Calls Tryz.prog 47 #[.int .i64 n] w fun e w'=>(∃ v,e=.returned v/\OVB w' w.heap.size v (dgs n))/\Below w.heap.size w w':=by
 induction n using Nat.strongRecOn with
 | ind n ih=>
 intro w hn
 by_cases h:n<10
 ·have HD:Hid (dgs n=[48+(n:Int)]/\True):=⟨zm6 h,trivial⟩
  have e1:IntKind.i64.wrap (48+(n:Int))=48+(n:Int):=IntWalk.i64_in _ (by omega)
  have e2:IntKind.u8.wrap (48+(n:Int))=48+(n:Int):=IntWalk.u8_in _ (by omega)
  have HO:Hid (OVB (w.alloc (Obj.cells #[.int .u8 (48+(n:Int))] 5)) w.heap.size (.slice (some ⟨w.heap.size,0,none⟩) 1 1) [48+(n:Int)]):=OVB.one w _ nl _ (by omega)
  have HB:Hid (Bw w (w.alloc (Obj.cells #[.int .u8 (48+(n:Int))] 5))):=ba;have h':(n:Int)<10:=by omega
  clear ih h
  go_enter Tryz.func47,Tryz.ntmps47
  go_wp2
  go_ret;exact ⟨⟨_,rfl,by rw [HD.out.1];exact HO.out⟩,HB.out⟩
 ·have HIH:Hid (∀ (w:World),Calls Tryz.prog 47 #[.int .i64 ((n:Int) / 10)] w fun e w'=>(∃ v,e=.returned v/\OVB w' w.heap.size v (dgs (n / 10)))/\Bw w w'):=fun w=>by
   have e:((n / 10:Nat):Int)=(n:Int) / 10:=by omega
   rw [<-e];exact ih (n / 10) (by omega) w (by omega)
  have HL:Hid ((dgs (n / 10)).length<=20):=z6d (by omega)
  have HD:Hid (dgs n=dgs (n / 10)++[48+((n % 10:Nat):Int)]/\True):=⟨zlo h,trivial⟩;have h':¬(n:Int)<10:=by omega
  clear ih h
  go_enter Tryz.func47,Tryz.ntmps47
  go_wp2_with fail
  refine (HIH.out _).mono ?_;rintro e w2 ⟨⟨v,rfl,hov⟩,hb2⟩;generalize hz:(48+((n % 10:Nat):Int))=z at *;have hzr:0<=z/\z<=255:=by omega
  have HO2:Hid (OVB (w2.alloc (Obj.cells #[.int .u8 z] 5)) w.heap.size v (dgs (n / 10))/\Byt (w2.alloc (Obj.cells #[.int .u8 z] 5)) (some ⟨w2.heap.size,0,none⟩) [z]/\Bw w (w2.alloc (Obj.cells #[.int .u8 z] 5))):=
   ⟨hov.alloc _,z22 _ _ hzr,hb2.alloc hb2.size _⟩
  have e0:Int.tmod (n:Int) 10=(n:Int) % 10:=Int.tmod_eq_emod_of_nonneg (by omega)
  have e1:IntKind.i64.wrap (48+(n:Int) % 10)=z:=by rw [IntWalk.i64_in _ (by omega)];omega
  have e2:IntKind.u8.wrap z=z:=IntWalk.u8_in _ (by omega)
  have HBS:Hid (w.heap.size<=w2.heap.size):=hb2.size;clear hov hb2 hz;go_wp2_with (at_builtin;(refine zr rfl (.tmp 11) (.tmp 16) rfl w.heap.size v (dgs (n / 10)) rfl HO2.out.1 (some ⟨w2.heap.size,0,none⟩) 1 [z] rfl HO2.out.2.1 (by have:=HL.out;simp;omega) (by have:=HBS.out;simp;omega) ?_;intro v3 w3 hov3 hg3;have HO3:Hid (OVB w3 w.heap.size v3 (dgs n)):=(by rw [HD.out.1];exact hov3);have HB3:Hid (Below w.heap.size w w3):=HO2.out.2.2.trans ((Below.refl _ _).grown hg3 (by simp;have:=HBS.out;omega) (fun k hk=>HO2.out.1.blk hk));clear hov3 hg3))
  go_ret;exact ⟨⟨_,rfl,HO3.out⟩,HB3.out⟩
theorem z1c (B:Nat) (v:Value) (zs:List Int) (s:ByteArray) (a:Option Addr) (c:Nat) (l:List Nat) (w:World) (hov:OVB w B v zs) (hB:B<=w.heap.size) (hl:Ins w a (l.map Int.ofNat)) (ht:TagI w a) (hb:zs.length+s.size+21*l.length+30<=900000) (hn:∀ n ∈ l,n<=9223372036854775807) :
  Calls Tryz.prog 18 #[v,.string s,.slice a l.length c] w fun e w'=>(∃ v',e=.returned v'/\OVB w' B v' (lin zs (tS s) l))/\Below B w w':=by
 generalize hln:l.map Int.ofNat=ln at *;have HLL:Hid (ln.length=l.length/\∀ k,k<l.length->ln.getD k 0=(l.getD k 0:Int)):=by
  subst hln;exact ⟨List.length_map _,fun k hk=>by simp [List.getD_eq_getElem?_getD,hk]⟩
 have HN:Hid (∀ n ∈ l,n<=9223372036854775807):=hn;have HT:Hid (TxO w w B v zs a ln):=⟨hov,hB,Below.refl _ _,hl,ht⟩;have HSZ:Hid (zs.length+s.size+21*l.length+30<=900000/\(tS s).length=s.size):=⟨hb,z1y s⟩;clear hov hB hl ht hb hn hln;generalize hnl:l.length=n at *;have HNL:Hid (l.length=n/\True):=⟨hnl,trivial⟩;have hn9:n<=50000:=by have:=HSZ.out.1;omega
 clear hnl
 go_enter Tryz.func18,Tryz.ntmps18
 obtain ⟨i0,hi,hz0,hz1,hz2⟩:=info_parts Tryz.infoU8;go_wp2_with (at_builtin;go_loud (refine Lib.wpList_append_own_string _ rfl (.tmp 8) (.tmp 9) 36 9 rfl B 5 i0 Tryz.underlying36 Tryz.underlying9 hi hz0 hz1 hz2 v zs.length _ rfl HT.out.o.1 s rfl (by have:=HSZ.out.1;unfold maxLen;omega) (by have:=HSZ.out.1;omega) HT.out.size ?_;intro v1 w1 hov1 hg1 _;have HT1:Hid (TxO w w1 B v1 (zs++tS s) a ln):=HT.out.app (zg2 HT.out.o hov1) hg1;clear hov1 hg1))
 clear i0 hi hz0 hz1 hz2;clear HT
 go_loopw [0,7] (fun v i wr=>∃ k:Nat,k<=n/\i=.int .i64 k/\TxO w wr B v (zs++tS s++z04 (l.take k)) a ln) (fun _ i _=>n-(intOf i).toNat)
 case atStart=>exact ⟨0,Nat.zero_le _,rfl,by simpa [z04] using HT1.out⟩
 case round=>
  clear HT1;obtain ⟨k,hk,rfl,hto⟩:=hrel;have HT0:Hid (TxO w wr B u0 (zs++tS s++z04 (l.take k)) a ln):=hto;clear hto
  by_cases hlt:k<n
  ·obtain ⟨b,off,rfl,hbl,hcell⟩:=HT0.out.li.len_pos k (by rw [HLL.out.1];exact hlt)
   have c0:=hcell k (by rw [HLL.out.1];exact hlt)
   rw [HLL.out.2 k hlt] at c0;have hm:=HN.out (l.getD k 0) (by rw [List.getD_eq_getElem?_getD,List.getElem?_eq_getElem (by rw [HNL.out.1];exact hlt)];exact List.getElem_mem _)
   have HNX:Hid (zs++tS s++z04 (l.take (k+1))=(zs++tS s++z04 (l.take k))++[32]++dgs (l.getD k 0)/\True):=by
    refine ⟨?_,trivial⟩;rw [List.take_succ_eq_append_getElem (by rw [HNL.out.1];exact hlt),za8,show l[k]'(by rw [HNL.out.1];exact hlt)=l.getD k 0 from by simp [List.getD_eq_getElem?_getD,List.getElem?_eq_getElem (show k<l.length by rw [HNL.out.1];exact hlt)]]
    simp
   have HLE:Hid ((zs++tS s++z04 (l.take k)).length<=900000):=by
    have h1:=z2v (l.take k) (fun n h=>HN.out n (List.mem_of_mem_take h))
    have h2:=HSZ.out
    simp only [List.length_append,List.length_take] at h1 ⊢
    have h3:min k l.length<=n:=by rw [HNL.out.1];omega
    have h4:21*min k l.length<=21*n:=Nat.mul_le_mul_left _ h3
    simp only [Hid]
    omega
   generalize l.getD k 0=m at *;generalize zs++tS s++z04 (l.take k)=xs at *;have HDG:Hid (∀ W,Calls Tryz.prog 47 #[.int .i64 m] W fun e w'=>(∃ v,e=.returned v/\OVB w' W.heap.size v (dgs m))/\Below W.heap.size W w'):=fun W=>zbx m W hm
   have HDL:Hid ((dgs m).length<=20):=z6d hm;clear hcell hm hbl;generalize hnk:(m:Int)=nk at *;clear hnk;go_wp2_with fail
   refine zi (S:=fun W=>W.cell? ⟨b,off+k,none⟩=some (.int .i64 nk)) 10 (by kernel_rfl) (by kernel_rfl) (by exact c0) (fun hHeld=>?_)
   refine wpAnyH_take (i:=0) (v:=?_) rfl (by kernel_rfl) (by kernel_rfl) (by kernel_rfl) (fun _ _ _ h=>h) (Or.inl ⟨by rfl,?_⟩) (by assumption) ?_
   rotate_left
   ·(intro w hSw;(try dsimp only at hSw);go_simp;try (with_reducible rfl))
   try simp only [List.getElem_toArray,List.getElem_cons_zero,List.getElem_cons_succ,Act.put,List.setIfInBounds_toArray,List.set_cons_zero,List.set_cons_succ]
   refine wpAnyH_take (i:=3) (v:=?_) rfl (by kernel_rfl) (by kernel_rfl) (by kernel_rfl) (fun _ _ _ h=>h) (Or.inl ⟨by rfl,?_⟩) (by assumption) ?_
   rotate_left
   ·(intro w hSw;(try dsimp only at hSw);go_simp;try (with_reducible rfl))
   try simp only [List.getElem_toArray,List.getElem_cons_zero,List.getElem_cons_succ,Act.put,List.setIfInBounds_toArray,List.set_cons_zero,List.set_cons_succ]
   refine wpAnyH_take (i:=4) (v:=?_) rfl (by kernel_rfl) (by kernel_rfl) (by kernel_rfl) (fun _ _ _ h=>h) (Or.inl ⟨by rfl,?_⟩) (by assumption) ?_
   rotate_left
   ·(intro w hSw;(try dsimp only at hSw);go_simp;try (with_reducible rfl))
   try simp only [List.getElem_toArray,List.getElem_cons_zero,List.getElem_cons_succ,Act.put,List.setIfInBounds_toArray,List.set_cons_zero,List.set_cons_succ]
   refine wpAnyH_take (i:=5) (v:=?_) rfl (by kernel_rfl) (by kernel_rfl) (by kernel_rfl) (fun _ _ _ h=>h) (Or.inl ⟨by rfl,?_⟩) (by assumption) ?_
   rotate_left
   ·(intro w hSw;(try dsimp only at hSw);go_simp;try (with_reducible rfl))
   try simp only [List.getElem_toArray,List.getElem_cons_zero,List.getElem_cons_succ,Act.put,List.setIfInBounds_toArray,List.set_cons_zero,List.set_cons_succ]
   refine wpAnyH_take (i:=6) (v:=?_) rfl (by kernel_rfl) (by kernel_rfl) (by kernel_rfl) (fun _ _ _ h=>h) (Or.inl ⟨by rfl,?_⟩) (by assumption) ?_
   rotate_left
   ·(intro w hSw;(try dsimp only at hSw);go_simp;try (with_reducible rfl))
   try simp only [List.getElem_toArray,List.getElem_cons_zero,List.getElem_cons_succ,Act.put,List.setIfInBounds_toArray,List.set_cons_zero,List.set_cons_succ]
   refine wpAnyH_ready (rs:=[1]) (by kernel_rfl) (by simp) ?_
   refine AllReadyH.cons rfl (fun K hK=>?_) AllReadyH.nil
   have T1d:Hid (TxO w wr.drew B u0 xs (some ⟨b,off,none⟩) ln):=HT0.out.step (Below.refl _ _).drew;have C1d:(fun W=>W.cell? ⟨b,off+k,none⟩=some (.int .i64 nk)) wr.drew:=c0
   go_simp
   have T1:Hid (TxO w (wr.alloc (Obj.cells #[.int .u8 32] 5)).drew B u0 xs (some ⟨b,off,none⟩) ln):=T1d.out.alloc _;have Y1:Hid (Byt (wr.alloc (Obj.cells #[.int .u8 32] 5)).drew (some ⟨wr.heap.size,0,none⟩) [32]):=z22 wr 32 (by omega)
   have C1:(fun W=>W.cell? ⟨b,off+k,none⟩=some (.int .i64 nk)) (wr.alloc (Obj.cells #[.int .u8 32] 5)).drew:=ze (Obj.cells #[.int .u8 32] 5) (World.block_lt_of_cell? _ _ C1d) C1d
   generalize hh1:wr.heap.size=hb1 at *;generalize (wr.alloc (Obj.cells #[.int .u8 32] 5)).drew=W1 at *;refine hK.out _ _ (by exact C1) (fun hHeld=>?_)
   clear hK K
   try simp only [List.getElem_toArray,List.getElem_cons_zero,List.getElem_cons_succ,Act.put,List.setIfInBounds_toArray,List.set_cons_zero,List.set_cons_succ]
   refine wpAnyH_ready (rs:=[2]) (by kernel_rfl) (by simp) ?_
   refine AllReadyH.cons rfl (fun K hK=>?_) AllReadyH.nil
   refine z0i rfl (z12 (.tmp 17) (.tmp 18) rfl B u0 xs (by simp [Act.eval]) T1.out.o (some ⟨hb1,0,none⟩) 1 [32] (by simp [Act.eval]) Y1.out (by have:=HLE.out;simp only [List.length_cons,List.length_nil];omega) T1.out.size ?_)
   intro v2 W2 hov2 hg2
   have T2:Hid (TxO w W2 B v2 (xs++[32]) (some ⟨b,off,none⟩) ln):=T1.out.app hov2 hg2;have C2:(fun W=>W.cell? ⟨b,off+k,none⟩=some (.int .i64 nk)) W2:=T1.out.kept hov2 hg2 C1
   refine hK.out _ _ (by exact C2) (fun hHeld=>?_)
   clear hK K
   try simp only [List.getElem_toArray,List.getElem_cons_zero,List.getElem_cons_succ,Act.put,List.setIfInBounds_toArray,List.set_cons_zero,List.set_cons_succ]
   refine wpAnyH_ready (rs:=[7]) (by kernel_rfl) (by simp) ?_
   refine AllReadyH.cons rfl (fun K hK=>?_) AllReadyH.nil
   go_simp
   refine (HDG.out _).mono ?_;rintro e W3 ⟨⟨d3,rfl,hod3⟩,hb3'⟩;obtain ⟨da,dc,rfl,hdm⟩:=hod3.mine;have T3:Hid (TxO w W3 B v2 (xs++[32]) (some ⟨b,off,none⟩) ln):=T2.out.step hb3';have D3:Hid (True/\Byt W3 da (dgs m)):=⟨trivial,hdm.byt⟩;have C3:(fun W=>W.cell? ⟨b,off+k,none⟩=some (.int .i64 nk)) W3:=keep hb3' (World.block_lt_of_cell? _ _ C2) C2
   have DB3:Hid (∀ x,zg da x->v2.ownBlock≠some x):=fun x hx he=>by have h1:=(hdm.rowE hx).1;have h2:=T2.out.lt he;omega
   refine hK.out _ _ (by exact C3) (fun hHeld=>?_)
   clear hK K
   try simp only [List.getElem_toArray,List.getElem_cons_zero,List.getElem_cons_succ,Act.put,List.setIfInBounds_toArray,List.set_cons_zero,List.set_cons_succ]
   have HT:Hid (TxO w W3 B v2 (xs++[32]) (some ⟨b,off,none⟩) ln/\Byt W3 da (dgs m)):=⟨T3.out,D3.out.2⟩;refine wpAnyH_ready (rs:=[8]) (by kernel_rfl) (by simp) ?_
   refine AllReadyH.cons rfl (fun K hK=>?_) AllReadyH.nil
   refine z0i rfl (z12 (.tmp 19) (.tmp 24) rfl B v2 (xs++[32]) (by simp [Act.eval]) HT.out.1.o da dc (dgs m) (by simp [Act.eval]) HT.out.2 (by have:=HLE.out;have:=HDL.out;simp only [List.length_append,List.length_cons,List.length_nil];omega) HT.out.1.size ?_)
   intro v9 w9 hov9 hg9
   have HT9:Hid (TxO w w9 B v9 (zs++tS s++z04 (l.take (k+1))) (some ⟨b,off,none⟩) ln):=by rw [HNX.out.1];exact HT.out.1.app hov9 hg9
   have C9:(fun W=>W.cell? ⟨b,off+k,none⟩=some (.int .i64 nk)) w9:=HT.out.1.kept hov9 hg9 C3
   clear hov9 hg9;refine hK.out _ _ (by exact C9) (fun hHeld=>?_)
   clear hK K
   try simp only [List.getElem_toArray,List.getElem_cons_zero,List.getElem_cons_succ,Act.put,List.setIfInBounds_toArray,List.set_cons_zero,List.set_cons_succ]
   refine wpAnyH_take (i:=9) (v:=?_) rfl (by kernel_rfl) (by kernel_rfl) (by kernel_rfl) (fun _ _ _ h=>h) (Or.inl ⟨by rfl,?_⟩) (by assumption) ?_
   rotate_left
   ·(intro w hSw;(try dsimp only at hSw);go_simp;try (with_reducible rfl))
   try simp only [List.getElem_toArray,List.getElem_cons_zero,List.getElem_cons_succ,Act.put,List.setIfInBounds_toArray,List.set_cons_zero,List.set_cons_succ]
   refine wpAnyH_done (by kernel_rfl) ?_ _
   simp only [z0g,List.drop_succ_cons,List.drop_zero]
   clear hHeld;go_wp2;go_roundw
   case rel=>exact ⟨k+1,by omega,by go_num,HT9.out⟩
   case measure=>simp [intOf];omega
  ·have hkn:k=n:=by omega
   subst hkn;have HF:Hid (TxO w wr B u0 (zs++tS s++z04 l) a ln):=by
    have h:=HT0.out;rw [List.take_of_length_le (by rw [HNL.out.1];exact Nat.le_refl _)] at h
    exact h
   have HLE:Hid ((zs++tS s++z04 l).length<=900000):=by
    have h1:=z2v l HN.out;have h2:=HSZ.out
    simp only [List.length_append]
    rw [HNL.out.1] at h1
    simp only [Hid]
    omega
   clear HT0;generalize hxs:zs++tS s++z04 l=xs at *;have HLI:Hid (lin zs (tS s) l=xs++[10]/\True):=⟨by rw [<-hxs];rfl,trivial⟩
   clear hxs;have HO2:Hid (TxO w (wr.alloc (Obj.cells #[.int .u8 10] 5)) B u0 xs a ln/\Byt (wr.alloc (Obj.cells #[.int .u8 10] 5)) (some ⟨wr.heap.size,0,none⟩) [10]):=⟨HF.out.alloc _,z22 _ _ (by omega)⟩
   go_wp2_with (at_builtin;(refine zr rfl (.tmp 26) (.tmp 27) rfl B u0 xs rfl HO2.out.1.o (some ⟨wr.heap.size,0,none⟩) 1 [10] rfl HO2.out.2 (by have:=HLE.out;simp only [List.length_cons,List.length_nil];omega) HO2.out.1.size ?_;intro v9 w9 hov9 hg9;have HT9:Hid (TxO w w9 B v9 (xs++[10]) a ln):=HO2.out.1.app hov9 hg9;clear hov9 hg9))
   go_ret;exact ⟨⟨_,rfl,by rw [HLI.out.1];exact HT9.out.o⟩,HT9.out.bel⟩
theorem zj0 (m:Nat):(dgs m).map (Value.int .u8)=Lib.byteCells (Lib.itoa (m:Int)):=by
 rw [Lib.itoa_nonneg]
 simp [dgs,Lib.byteCells,Function.comp_def]
theorem zk4 (m:Nat):(Lib.itoa (m:Int)).length=(dgs m).length:=by rw [Lib.itoa_nonneg,dgs,List.length_map]
theorem TxO.ai {w0 W W':World} {B:Nat} {v v':Value} {xs:List Int} {a:Option Addr} {ln:List Int} {m:Nat} (h:TxO w0 W B v xs a ln)
  (ho:W'.ownsRow B 5 1 v' (xs.length+(Lib.itoa (m:Int)).length) (xs.map (Value.int .u8)++Lib.byteCells (Lib.itoa (m:Int)))) (hb:Below B W W') (hk:Lib.OthersKept 5 none W W'):TxO w0 W' B v' (xs++dgs m) a ln:=by
 have keepB:∀ x,a=some x->W'.heap[x.block]?=W.heap[x.block]?:=by
  intro x hx
  obtain ⟨h1,c,q,h2⟩:=h.tag x hx;rw [h2];exact hk _ _ h2 (by simp) (fun c' f e=>by simp at e)
 refine ⟨⟨?_,fun z hz=>(List.mem_append.1 hz).elim (h.o.2 z) (zn3 m z)⟩,Nat.le_trans h.size hb.size,h.bel.trans hb,⟨h.li.1,fun h0=>?_⟩,fun x hx=>?_⟩
 ·rw [List.map_append,zj0,List.length_append,<-zk4]
  exact ho
 ·obtain ⟨b,off,rfl,hbl,hc⟩:=h.li.2 h0
  have he:W'.heap[b]?=W.heap[b]?:=keepB ⟨b,off,none⟩ rfl;exact ⟨b,off,rfl,Nat.lt_of_lt_of_le hbl hb.size,fun i hi=>(World.cell?_of_block (w:=W) (a:=⟨b,off+i,none⟩) he).trans (hc i hi)⟩
 ·obtain ⟨h1,c,q,h2⟩:=h.tag x hx
  exact ⟨Nat.lt_of_lt_of_le h1 hb.size,c,q,(keepB x hx).trans h2⟩
theorem zbb {w0 W : World} {B : Nat} {v : Value} {xs : List Int} {a : Option Addr} {ln : List Int} {m : Nat} (h : TxO w0 W B v xs a ln) (hm : m ≤ 9223372036854775807) (hl : xs.length ≤ 1000000) {nm : String} (hn : nm = "internal/strconv.uint64pow10") (ht : Lib.TabBelow Tryz.prog B W nm .u64 Lib.pow10Tab) :
  Calls Tryz.prog 60 #[v,.int .i64 m,.int .i64 10] W fun e W'=>∃ v',e=.returned v'/\TxO w0 W' B v' (xs++dgs m) a ln:=by
 subst hn;refine (Any.strconv_AppendInt_10 Tryz.laysAI B xs.length (m:Int) (by omega) (by omega) v (xs.map (Value.int .u8)) W h.o.1 h.size (by omega) ht).mono ?_
 rintro e W' ⟨v',rfl,h1,h2,h3⟩;exact ⟨v',rfl,h.ai h1 h2 h3⟩
theorem z0v (B:Nat) (v:Value) (zs:List Int) (s:ByteArray) (a:Option Addr) (c:Nat) (l:List Nat) (w:World) (hov:OVB w B v zs) (hB:B<=w.heap.size) (hl:Ins w a (l.map Int.ofNat)) (ht:TagI w a) (hb:zs.length+s.size+21*l.length+30<=900000) (hn:∀ n ∈ l,n<=9223372036854775807)
  {nm : String} (hnm : nm = "internal/strconv.uint64pow10") (htab : Lib.TabBelow Tryz.prog B w nm .u64 Lib.pow10Tab) :
  Calls Tryz.prog 26 #[v,.string s,.slice a l.length c] w fun e w'=>(∃ v',e=.returned v'/\OVB w' B v' (lin zs (tS s) l))/\Below B w w':=by
 generalize hln:l.map Int.ofNat=ln at *;have HLL:Hid (ln.length=l.length/\∀ k,k<l.length->ln.getD k 0=(l.getD k 0:Int)):=by
  subst hln;exact ⟨List.length_map _,fun k hk=>by simp [List.getD_eq_getElem?_getD,hk]⟩
 have HN:Hid (∀ n ∈ l,n<=9223372036854775807):=hn
 have HTB : Hid (Lib.TabBelow Tryz.prog B w nm .u64 Lib.pow10Tab ∧ nm = "internal/strconv.uint64pow10") := ⟨htab, hnm⟩
 have HT:Hid (TxO w w B v zs a ln):=⟨hov,hB,Below.refl _ _,hl,ht⟩;have HSZ:Hid (zs.length+s.size+21*l.length+30<=900000/\(tS s).length=s.size):=⟨hb,z1y s⟩;clear hov hB hl ht hb hn hln htab hnm;generalize hnl:l.length=n at *;have HNL:Hid (l.length=n/\True):=⟨hnl,trivial⟩;have hn9:n<=50000:=by have:=HSZ.out.1;omega
 clear hnl
 go_enter Tryz.func26,Tryz.ntmps26
 obtain ⟨i0,hi,hz0,hz1,hz2⟩:=info_parts Tryz.infoU8;go_wp2_with (at_builtin;(refine Lib.wpList_append_own_string _ rfl (.tmp 9) (.tmp 10) 36 9 rfl B 5 i0 Tryz.underlying36 Tryz.underlying9 hi hz0 hz1 hz2 v zs.length _ rfl HT.out.o.1 s rfl (by have:=HSZ.out.1;unfold maxLen;omega) (by have:=HSZ.out.1;omega) HT.out.size ?_;intro v1 w1 hov1 hg1 _;have HT1:Hid (TxO w w1 B v1 (zs++tS s) a ln):=HT.out.app (zg2 HT.out.o hov1) hg1;clear hov1 hg1))
 clear i0 hi hz0 hz1 hz2;clear HT
 go_loopw [0,14] (fun v i wr=>∃ k:Nat,k<=n/\i=.int .i64 k/\TxO w wr B v (zs++tS s++z04 (l.take k)) a ln) (fun _ i _=>n-(intOf i).toNat)
 case atStart=>exact ⟨0,Nat.zero_le _,rfl,by simpa [z04] using HT1.out⟩
 case round=>
  clear HT1;obtain ⟨k,hk,rfl,hto⟩:=hrel;have HT0:Hid (TxO w wr B u0 (zs++tS s++z04 (l.take k)) a ln):=hto;clear hto
  by_cases hlt:k<n
  ·obtain ⟨b,off,rfl,hbl,hcell⟩:=HT0.out.li.len_pos k (by rw [HLL.out.1];exact hlt)
   have c0:=hcell k (by rw [HLL.out.1];exact hlt)
   rw [HLL.out.2 k hlt] at c0;have hm:=HN.out (l.getD k 0) (by rw [List.getD_eq_getElem?_getD,List.getElem?_eq_getElem (by rw [HNL.out.1];exact hlt)];exact List.getElem_mem _)
   have HNX:Hid (zs++tS s++z04 (l.take (k+1))=(zs++tS s++z04 (l.take k))++[32]++dgs (l.getD k 0)/\True):=by
    refine ⟨?_,trivial⟩;rw [List.take_succ_eq_append_getElem (by rw [HNL.out.1];exact hlt),za8,show l[k]'(by rw [HNL.out.1];exact hlt)=l.getD k 0 from by simp [List.getD_eq_getElem?_getD,List.getElem?_eq_getElem (show k<l.length by rw [HNL.out.1];exact hlt)]]
    simp
   have HLE:Hid ((zs++tS s++z04 (l.take k)).length<=900000):=by
    have h1:=z2v (l.take k) (fun n h=>HN.out n (List.mem_of_mem_take h))
    have h2:=HSZ.out
    simp only [List.length_append,List.length_take] at h1 ⊢
    have h3:min k l.length<=n:=by rw [HNL.out.1];omega
    have h4:21*min k l.length<=21*n:=Nat.mul_le_mul_left _ h3
    simp only [Hid]
    omega
   generalize l.getD k 0=m at *;generalize zs++tS s++z04 (l.take k)=xs at *;have HDL:Hid (m<=9223372036854775807/\(dgs m).length<=20):=⟨hm,z6d hm⟩;have HO2:Hid (TxO w (wr.alloc (Obj.cells #[.int .u8 32] 5)) B u0 xs (some ⟨b,off,none⟩) ln/\Byt (wr.alloc (Obj.cells #[.int .u8 32] 5)) (some ⟨wr.heap.size,0,none⟩) [32]):=⟨HT0.out.alloc _,z22 _ _ (by omega)⟩
   clear hcell hm hbl;go_wp2_with (at_builtin;(refine zr rfl (.tmp 18) (.tmp 19) rfl B u0 xs rfl HO2.out.1.o (some ⟨wr.heap.size,0,none⟩) 1 [32] rfl HO2.out.2 (by have:=HLE.out;simp only [List.length_cons,List.length_nil];omega) HO2.out.1.size ?_;intro v5 w5 hov5 hg5;have HT5:Hid (TxO w w5 B v5 (xs++[32]) (some ⟨b,off,none⟩) ln):=HO2.out.1.app hov5 hg5;clear hov5 hg5;refine Hid.out ?_))
   refine Lib.hid ?_;have HAI:=zbb (m:=m) HT5.out HDL.out.1 (by have:=HLE.out;simp only [List.length_append,List.length_cons,List.length_nil];omega) HTB.out.2 (HTB.out.1.on HT5.out.bel)
   go_wp2_with fail
   refine HAI.mono ?_;clear HAI;rintro e w6 ⟨v6,rfl,hto6⟩;have HT9:Hid (TxO w w6 B v6 (zs++tS s++z04 (l.take (k+1))) (some ⟨b,off,none⟩) ln):=by rw [HNX.out.1];exact hto6
   clear hto6;go_wp2;go_roundw
   case rel=>exact ⟨k+1,by omega,by go_num,HT9.out⟩
   case measure=>simp [intOf];omega
  ·have hkn:k=n:=by omega
   subst hkn;have HF:Hid (TxO w wr B u0 (zs++tS s++z04 l) a ln):=by
    have h:=HT0.out;rw [List.take_of_length_le (by rw [HNL.out.1];exact Nat.le_refl _)] at h
    exact h
   have HLE:Hid ((zs++tS s++z04 l).length<=900000):=by
    have h1:=z2v l HN.out;have h2:=HSZ.out
    simp only [List.length_append]
    rw [HNL.out.1] at h1
    simp only [Hid]
    omega
   clear HT0;generalize hxs:zs++tS s++z04 l=xs at *;have HLI:Hid (lin zs (tS s) l=xs++[10]/\True):=⟨by rw [<-hxs];rfl,trivial⟩
   clear hxs;have HO2:Hid (TxO w (wr.alloc (Obj.cells #[.int .u8 10] 5)) B u0 xs a ln/\Byt (wr.alloc (Obj.cells #[.int .u8 10] 5)) (some ⟨wr.heap.size,0,none⟩) [10]):=⟨HF.out.alloc _,z22 _ _ (by omega)⟩
   go_wp2_with (at_builtin;(refine zr rfl (.tmp 25) (.tmp 26) rfl B u0 xs rfl HO2.out.1.o (some ⟨wr.heap.size,0,none⟩) 1 [10] rfl HO2.out.2 (by have:=HLE.out;simp only [List.length_cons,List.length_nil];omega) HO2.out.1.size ?_;intro v9 w9 hov9 hg9;have HT9:Hid (TxO w w9 B v9 (xs++[10]) a ln):=HO2.out.1.app hov9 hg9;clear hov9 hg9))
   go_ret;exact ⟨⟨_,rfl,by rw [HLI.out.1];exact HT9.out.o⟩,HT9.out.bel⟩
def epS :ByteArray:=⟨#[101,112,111,99,104]⟩
def frS :ByteArray:=⟨#[102,114,101,101]⟩
def haS :ByteArray:=⟨#[104,97,115]⟩
def emS :ByteArray:=⟨#[101,109,112,116,121]⟩
def brS :ByteArray:=⟨#[98,114,111,107,101,110]⟩
theorem wdS :epS.size=5/\frS.size=4/\haS.size=3/\emS.size=5/\brS.size=6:=by decide
def adL (b:List Int) (i:Nat):Option (List Int)->List Int
 | none=>lin b (tS brS) [i]
 | some []=>lin b (tS emS) [i]
 | some (z :: zs)=>lin b (tS haS) [i,(z % 256).toNat,(zs.length+1) % 65536]
def txL (b:List Int) (g:Nat->Option (List Int)):Nat->List Int
 | 0=>b
 | k+1=>adL (txL b g k) k (g k)
def hdL (d:DkV):List Int:=lin (lin [] (tS epS) [d.E.toNat,d.O.toNat]) (tS frS) ((frL d (d.ss.length-2)).map Int.toNat)
def TxR (f:List Int->Option (List Int)) (d:DkV) (zs:List Int):Prop:=
 (DkG f d/\∃ g:Nat->Option (List Int),(∀ i,i<d.ms.length->CtR f d i (g i))/\zs=txL (hdL d) g d.ms.length)\/(¬DkG f d/\zs=[])
theorem zcd (b:List Int) {g h:Nat->Option (List Int)}:∀ k,(∀ i,i<k->g i=h i)->txL b g k=txL b h k
 | 0,_=>rfl
 | k+1,e=>by
  simp only [txL]
  rw [zcd b k (fun i hi=>e i (by omega)),e k (by omega)]
theorem zjr {e d:DkV} (hs:DkS e d):hdL e=hdL d:=by
 unfold hdL;rw [hs.E,hs.O,zl1 hs,hs.ssl]
theorem TxR.same {f:List Int->Option (List Int)} {e d:DkV} {zs:List Int} (hs:DkS e d) (h:TxR f e zs):TxR f d zs:=by
 rcases h with ⟨h1,g,h2,h3⟩ | ⟨h1,h2⟩
 ·exact .inl ⟨h1.same hs,g,fun i hi=>(h2 i (by rw [hs.ms];exact hi)).same hs,by rw [h3,zjr hs,hs.ms]⟩
 ·exact .inr ⟨fun h=>h1 (h.same hs.symm),h2⟩
theorem TxR.uniq {f:List Int->Option (List Int)} {d:DkV} {zs ys:List Int} (h:TxR f d zs) (k:TxR f d ys):zs=ys:=by
 rcases h with ⟨h1,g,h2,h3⟩ | ⟨h1,h2⟩ <;> rcases k with ⟨k1,g',k2,k3⟩ | ⟨k1,k2⟩
 ·rw [h3,k3]
  exact zcd _ _ (fun i hi=>(h2 i hi).uniq (k2 i hi))
 ·exact absurd h1 k1
 ·exact absurd k1 h1
 ·rw [h2,k2]
theorem z27 (b w:List Int) (l:List Nat) (h:∀ n ∈ l,n<=9223372036854775807):(lin b w l).length<=b.length+w.length+21*l.length+1:=by
 have:=z2v l h
 simp only [lin,List.length_append,List.length_cons,List.length_nil]
 omega
theorem zna (b:List Int) (i:Nat) (o:Option (List Int)) (hi:i<=1000000):(adL b i o).length<=b.length+80:=by
 have hw:=wdS;rcases o with _ | _ | ⟨z,zs⟩
 ·have h:=z27 b (tS brS) [i] (by intro n hn;simp at hn;omega)
  simp only [z1y,List.length_cons,List.length_nil] at h
  simp only [adL]
  omega
 ·have h:=z27 b (tS emS) [i] (by intro n hn;simp at hn;omega)
  simp only [z1y,List.length_cons,List.length_nil] at h
  simp only [adL]
  omega
 ·have h:=z27 b (tS haS) [i,(z % 256).toNat,(zs.length+1) % 65536] (by intro n hn;simp at hn;omega)
  simp only [z1y,List.length_cons,List.length_nil] at h
  simp only [adL]
  omega
theorem z66 (b:List Int) (g:Nat->Option (List Int)):∀ k,k<=1000000->(txL b g k).length<=b.length+80*k
 | 0,_=>by simp [txL]
 | k+1,h=>by
  have h1:=z66 b g k (by omega)
  have h2:=zna (txL b g k) k (g k) (by omega)
  simp only [txL]
  omega
theorem z69 (d:DkV) (k:Nat):∀ z ∈ frL d k,2<=z/\z<=(k+2:Nat):=by
 induction k with
 | zero=>simp [frL]
 | succ k ih=>
  intro z hz
  simp only [frL] at hz
  split at hz
  ·rcases List.mem_append.1 hz with h | h
   ·have:=ih z h
    omega
   ·simp at h
    omega
  ·have:=ih z hz
   omega
theorem zfu (d:DkV) (k:Nat):((frL d k).map Int.toNat).map Int.ofNat=frL d k:=by
 rw [List.map_map]
 conv=>rhs;rw [<-List.map_id (frL d k)]
 refine List.map_congr_left (fun z hz=>?_)
 have:=z69 d k z hz
 simp only [Function.comp_apply,id_eq]
 exact Int.toNat_of_nonneg (by omega)
theorem z9w {f:List Int->Option (List Int)} {d:DkV} (hG:DkG f d):(hdL d).length<=600:=by
 have hg:=hG.geo;unfold gmB at hg;have hg:=of_decide_eq_true hg;have he:=hG.e;have ho:=hG.o;have hw:=wdS;have h1:=z27 [] (tS epS) [d.E.toNat,d.O.toNat] (by intro n hn;simp at hn;omega)
 have h2:=z27 (lin [] (tS epS) [d.E.toNat,d.O.toNat]) (tS frS) ((frL d (d.ss.length-2)).map Int.toNat) (by
  intro n hn
  obtain ⟨z,hz,rfl⟩:=List.mem_map.1 hn;have:=z69 d _ z hz
  omega)
 have h3:=z3v d (d.ss.length-2)
 simp only [z1y,List.length_cons,List.length_nil,List.length_map] at h1 h2
 unfold hdL
 omega
theorem TxR.len {f:List Int->Option (List Int)} {d:DkV} {zs:List Int} (h:TxR f d zs):zs.length<=2000:=by
 rcases h with ⟨h1,g,h2,rfl⟩ | ⟨-,rfl⟩
 ·have hg:=h1.geo
  unfold gmB at hg;have hg:=of_decide_eq_true hg;have h3:=z66 (hdL d) g d.ms.length (by omega)
  have h4:=z9w h1
  omega
 ·simp
theorem z3z {f:List Int->Option (List Int)} {d:DkV} {b:List Int} {g:Nat->Option (List Int)} {k:Nat} {o:Option (List Int)} (h:∀ j,j<k->CtR f d j (g j)) (ho:CtR f d k o) :
  ∃ g':Nat->Option (List Int),(∀ j,j<k+1->CtR f d j (g' j))/\txL b g' (k+1)=adL (txL b g k) k o:=by
 refine ⟨fun j=>if j=k then o else g j,fun j hj=>?_,?_⟩
 ·by_cases e:j=k
  ·subst e
   simpa using ho
  ·simpa [e] using h j (by omega)
 ·simp only [txL,if_true]
  rw [zcd b k (g:=fun j=>if j=k then o else g j) (h:=g) (fun i hi=>by simp [show i≠k by omega])]
def TxA (R:List Int->Prop) (w:World) (r:Ending) (w':World):Prop:=(∃ v zs,r=.returned v/\OVB w' w.heap.size v zs/\R zs)/\Below w.heap.size w w'
theorem z1g (w:World) (l:List Int) (h:∀ z ∈ l,-9223372036854775808<=z/\z<=9223372036854775807):Ins (w.alloc (Obj.cells (l.map (Value.int .i64)).toArray 3)) (some ⟨w.heap.size,0,none⟩) l/\TagI (w.alloc (Obj.cells (l.map (Value.int .i64)).toArray 3)) (some ⟨w.heap.size,0,none⟩):=by
 refine ⟨⟨h,fun h0=>⟨w.heap.size,0,rfl,by simp,fun i hi=>?_⟩⟩,?_⟩
 ·simp [List.getD_eq_getElem?_getD,hi]
 ·rintro x hx
  obtain rfl:x=⟨w.heap.size,0,none⟩:=by simpa using hx.symm
  exact ⟨by simp,_,_,z40 w _⟩
structure TxD (w W:World) (d:DkV) (v:Value) (xs:List Int):Prop where
 bel:Below w.heap.size w W
 bx:Dk10 W w.heap.size d
 o:OVB W (w.heap.size+1) v xs
theorem TxD.size {w W:World} {d:DkV} {v:Value} {xs:List Int} (h:TxD w W d v xs):w.heap.size+1<=W.heap.size:=h.bx.lt
theorem TxD.step {w W W':World} {d:DkV} {v:Value} {xs:List Int} (h:TxD w W d v xs) (hb:Below W.heap.size W W'):TxD w W' d v xs:=
 ⟨h.bel.trans (hb.mono (by have:=h.size;omega)),h.bx.step hb,h.o.below hb⟩
theorem TxD.alloc {w W:World} {d:DkV} {v:Value} {xs:List Int} (h:TxD w W d v xs) (o:Obj):TxD w (W.alloc o) d v xs:=h.step ((Below.refl W.heap.size W).alloc nl o)
theorem TxD.line {w W W':World} {d:DkV} {v v':Value} {xs ys:List Int} (h:TxD w W d v xs) (ho:OVB W' (w.heap.size+1) v' ys) (hb:Below (w.heap.size+1) W W'):TxD w W' d v' ys:=
 ⟨h.bel.trans (hb.mono (by omega)),h.bx.keep hb (by omega),ho⟩
theorem MinI.tag {w:World} {B U c:Nat} {a:Option Addr} {zs:List Int} (h:MinI w B U a c zs):TagI w a:=by
 rintro x rfl;rcases h with ⟨h',_⟩ | ⟨g,h',g1,g2,h2⟩
 ·cases h'
 ·obtain rfl:x=⟨g,0,none⟩:=by simpa using h'
  rcases h2.1.2 with ⟨h3,_⟩ | ⟨g',cap,cur,h3,hg,hh,r⟩
  ·cases h3
  ·obtain rfl:g=g':=by simp at h3;exact h3.1
   exact ⟨(Array.getElem?_eq_some_iff.1 hh).1,_,_,hh⟩
theorem z75 (f:List Int->Option (List Int)) (hf:zz f) (d:DkV) (w:World) (hb:DkI w d) (hi:ItI w d.oa d.os) (hd:DkF d) (hc:RwC d) (hcc:d.cs.length<=d.cc) :
  Calls Tryz.prog 5 #[.agg #[.slice d.sa d.ss.length d.sc,.slice d.pa d.ps.length d.pc,.int .i64 d.E,.int .i64 d.O,.slice d.ma d.ms.length d.mc,.slice d.va d.vs.length d.vc,.slice d.ca d.cs.length d.cc,.int .i64 d.F,.int .i64 d.G,.slice d.oa d.os.length d.oc]] w (TxA (TxR f d) w):=by
 have HW0:Hid (Bw w (w.alloc (Obj.cells #[.slice d.sa d.ss.length d.sc,.slice d.pa d.ps.length d.pc,.int .i64 d.E,.int .i64 d.O,.slice d.ma d.ms.length d.mc,.slice d.va d.vs.length d.vc,.slice d.ca d.cs.length d.cc,.int .i64 d.F,.int .i64 d.G,.slice d.oa d.os.length d.oc] 48))):=ba;have hx0:=Dk10.new w d 48;have H1:=z8y f hf d _ (hb.below HW0.out nl) (hi.below HW0.out nl) hd hcc;have HB:Hid (DkI w d/\ItI w d.oa d.os/\DkF d/\zz f/\RwC d):=⟨hb,hi,hd,hf,hc⟩
 have HY:Hid (DkG f d->∀ (v:Value) (g:Nat->Option (List Int)) (W:World),(∀ i,i<d.ms.length->CtR f d i (g i))->TxD w W d v (txL (hdL d) g d.ms.length)->TxA (TxR f d) w (.returned v) W):=
  fun h v g W h1 h2=>⟨⟨v,_,rfl,h2.o.weak (by omega),.inl ⟨h,g,h1,rfl⟩⟩,h2.bel⟩
 have HN:Hid (¬DkG f d->∀ (W:World),Bw w W->TxA (TxR f d) w (.returned (.slice none 0 0)) W):=
  fun h W h4=>⟨⟨_,[],rfl,OVB.nil _ _,.inr ⟨h,rfl⟩⟩,h4⟩
 clear hb hi hd hf hc hcc;generalize TxA (TxR f d) w=RP at *
 go_enter Tryz.func5,Tryz.ntmps5
 go_wp2_with fail
 generalize (w.alloc (Obj.cells #[.slice d.sa d.ss.length d.sc,.slice d.pa d.ps.length d.pc,.int .i64 d.E,.int .i64 d.O,.slice d.ma d.ms.length d.mc,.slice d.va d.vs.length d.vc,.slice d.ca d.cs.length d.cc,.int .i64 d.F,.int .i64 d.G,.slice d.oa d.os.length d.oc] 48))=W0 at *;refine H1.mono ?_;clear H1;rintro e w1 ⟨h1,hb1⟩;have hx1:=hx0.step hb1;have HW1:Hid (Bw w w1):=HW0.out.trans (hb1.mono HW0.out.size)
 clear hb1 hx0 HW0;rcases h1 with ⟨hG,rfl⟩ | ⟨hG,rfl⟩
 rotate_left
 ·have HF:Hid (∀ (W:World),Bw w W->RP (.returned (.slice none 0 0)) W):=HN.out hG
  clear hG HN HY;go_wp2;exact HF.out _ HW1.out
 have HG:Hid (DkG f d):=hG;have HY2:Hid _:=HY.out hG;have hgg:(d.ms.length<=16/\2<=d.ss.length/\d.ss.length<=24)/\(0<=d.E/\d.E<=60000)/\(0<=d.O/\d.O<=60000):=by
  have h:=hG.geo;unfold gmB at h;have h:=of_decide_eq_true h;exact ⟨by omega,hG.e,hG.o⟩
 have HGG:Hid _:=hgg;have HHL:Hid ((hdL d).length<=600):=z9w hG;clear hG HN HY;have HT1:Hid (TxD w w1 d (.slice none 0 0) []):=⟨HW1.out,hx1,OVB.nil _ _⟩;obtain ⟨x0,x1,x2,x3,x4,x5,x6,x7,x8,x9,xl⟩:=id hx1;clear hx1 HW1
 -- the first line
 obtain ⟨EN,hEN⟩:=Int.eq_ofNat_of_zero_le hgg.2.1.1;obtain ⟨ON,hON⟩:=Int.eq_ofNat_of_zero_le hgg.2.2.1;have HEO:Hid ((d.E=(EN:Int)/\d.O=(ON:Int))/\EN<=60000/\ON<=60000):=⟨⟨hEN,hON⟩,by omega,by omega⟩
 have HL1:Hid (Ins (w1.alloc (Obj.cells #[.int .i64 d.E,.int .i64 d.O] 3)) (some ⟨w1.heap.size,0,none⟩) ([EN,ON].map Int.ofNat)/\TagI (w1.alloc (Obj.cells #[.int .i64 d.E,.int .i64 d.O] 3)) (some ⟨w1.heap.size,0,none⟩)):=by
  rw [hEN,hON];exact z1g w1 ([EN,ON].map Int.ofNat) (by intro z hz;simp at hz;omega)
 have HHD:Hid (hdL d=lin (lin [] (tS epS) [EN,ON]) (tS frS) ((frL d (d.ss.length-2)).map Int.toNat)):=by
  show hdL d=_
  unfold hdL;rw [hEN,hON]
  rfl
 clear hEN hON hgg;have HT2:=HT1.out.alloc (Obj.cells #[.int .i64 d.E,.int .i64 d.O] 3);have H2:=z1c (w.heap.size+1) (.slice none 0 0) [] epS (some ⟨w1.heap.size,0,none⟩) 2 [EN,ON] _ HT2.o HT2.size HL1.out.1 HL1.out.2 (by have:=wdS;simp only [List.length_cons,List.length_nil];omega) (by intro n hn;have:=HEO.out;simp at hn;omega)
 have HB2:Hid (TxD w (w1.alloc (Obj.cells #[.int .i64 d.E,.int .i64 d.O] 3)) d (.slice none 0 0) []):=HT2;clear HT2;go_wp2_with fail
 refine H2.mono ?_;clear H2;rintro e w2 ⟨⟨v2,rfl,hov2⟩,hb2⟩;have HT2:Hid (TxD w w2 d v2 (lin [] (tS epS) [EN,ON])):=HB2.out.line hov2 hb2;clear hov2 hb2 HB2 HL1 HT1 x0 x1 x2 x3 x4 x5 x6 x7 x8 x9 xl;obtain ⟨x0,x1,x2,x3,x4,x5,x6,x7,x8,x9,xl⟩:=HT2.out.bx;have H3:=zg3 d w2 (HB.out.1.below HT2.out.bel nl) (by have:=HGG.out;omega) HG.out.map HG.out.sav HB.out.2.2.1.cs
 go_wp2_with fail
 refine H3.mono ?_;clear H3;rintro e w3 ⟨⟨fa,fc,rfl,hmf⟩,hb3⟩;have HT3:Hid (TxD w w3 d v2 (lin [] (tS epS) [EN,ON])):=HT2.out.step hb3;have H4:=z1c (w.heap.size+1) v2 (lin [] (tS epS) [EN,ON]) frS fa fc ((frL d (d.ss.length-2)).map Int.toNat) w3 HT3.out.o HT3.out.size (by rw [zfu];exact hmf.byt) hmf.tag (by
  have h1:=z27 [] (tS epS) [EN,ON] (by intro n hn;have:=HEO.out;simp at hn;omega)
  have h2:=z3v d (d.ss.length-2);have h3:=wdS;have h4:=HGG.out
  simp only [z1y,List.length_cons,List.length_nil] at h1
  rw [List.length_map]
  omega) (by
  intro n hn
  obtain ⟨z,hz,rfl⟩:=List.mem_map.1 hn;have:=z69 d _ z hz;have h4:=HGG.out
  omega)
 rw [List.length_map,<-HHD.out] at H4;clear hmf hb3 HT2 x0 x1 x2 x3 x4 x5 x6 x7 x8 x9 xl;go_wp2_with fail
 refine H4.mono ?_;clear H4;rintro e w4 ⟨⟨v4,rfl,hov4⟩,hb4⟩;have HT4:Hid (TxD w w4 d v4 (txL (hdL d) (fun _=>none) 0)):=HT3.out.line hov4 hb4
 clear hov4 hb4 HT3;obtain ⟨x0,x1,x2,x3,x4,x5,x6,x7,x8,x9,xl⟩:=HT4.out.bx;clear HHD;generalize hnl:d.ms.length=n at *;have HNL:Hid (d.ms.length=n/\n<=16):=⟨hnl,HGG.out.1.1⟩;have hn16:n<=16:=HNL.out.2;go_wp2_with fail
 clear x0 x1 x2 x3 x4 x5 x6 x7 x8 x9 xl
 go_loopw [3,4] (fun v i wr=>∃ (k:Nat) (g:Nat->Option (List Int)),k<=n/\i=.int .i64 k/\(∀ j,j<k->CtR f d j (g j))/\TxD w wr d v (txL (hdL d) g k)) (fun _ i _=>n-(intOf i).toNat)
 case atStart=>exact ⟨0,fun _=>none,Nat.zero_le _,rfl,fun j hj=>absurd hj (Nat.not_lt_zero j),HT4.out⟩
 case round=>
  clear HT4;obtain ⟨k,g,hk,rfl,hg,htx⟩:=hrel;have HGK:Hid (∀ j,j<k->CtR f d j (g j)):=hg;have HTX:Hid (TxD w wr d u3 (txL (hdL d) g k)):=htx;have HLE:Hid ((txL (hdL d) g k).length<=2000):=by
   have h1:=z66 (hdL d) g k (by have:=HNL.out.2;omega)
   have h2:=HHL.out;have h3:=HNL.out.2;exact (by omega:(txL (hdL d) g k).length<=2000)
  obtain ⟨x0,x1,x2,x3,x4,x5,x6,x7,x8,x9,xl⟩:=htx.bx;rw [hnl] at x4;clear hg htx
  by_cases hlt:k<n
  ·have HLT:Hid (k<d.ms.length/\k<=16):=⟨by rw [HNL.out.1];exact hlt,by have:=HNL.out.2;omega⟩
   have H5:=zf7 f HB.out.2.2.2.1 d k wr (HB.out.1.below HTX.out.bel nl) (HB.out.2.1.below HTX.out.bel nl) HG.out HB.out.2.2.1 HB.out.2.2.2.2 HLT.out.1;rw [hnl] at H5;go_wp2_with fail
   clear x0 x1 x2 x3 x4 x5 x6 x7 x8 x9 xl;refine H5.mono ?_;clear H5;rintro e w2 ⟨⟨o,hct,hcs⟩,hb2⟩;have HB2:Hid (TxD w w2 d u3 (txL (hdL d) g k)):=HTX.out.step hb2;have hsh:=hct.short HG.out;clear HTX hb2;rcases hcs with ⟨ls,a,c,rfl,rfl,hby,-⟩ | ⟨rfl,rfl⟩
   ·rcases ls with _ | ⟨z,zs⟩
    ·have HCT:Hid (CtR f d k (some [])):=hct
     clear hct hby hsh;obtain ⟨g',hg',he'⟩:=z3z (b:=hdL d) HGK.out HCT.out;have HNX:Hid ((∀ j,j<k+1->CtR f d j (g' j))/\txL (hdL d) g' (k+1)=lin (txL (hdL d) g k) (tS emS) [k]):=⟨hg',by rw [he'];rfl⟩
     clear hg' he';have HL2:Hid (Ins (w2.alloc (Obj.cells #[.int .i64 k] 3)) (some ⟨w2.heap.size,0,none⟩) ([k].map Int.ofNat)/\TagI (w2.alloc (Obj.cells #[.int .i64 k] 3)) (some ⟨w2.heap.size,0,none⟩)):=
      z1g w2 ([k].map Int.ofNat) (by intro z hz;have:=HLT.out.2;simp at hz;omega)
     have HT5:Hid (TxD w (w2.alloc (Obj.cells #[.int .i64 k] 3)) d u3 (txL (hdL d) g k)):=HB2.out.alloc _;have H6:=z1c (w.heap.size+1) u3 (txL (hdL d) g k) emS (some ⟨w2.heap.size,0,none⟩) 1 [k] _ HT5.out.o HT5.out.size HL2.out.1 HL2.out.2 (by have:=wdS;have:=HLE.out;simp only [List.length_cons,List.length_nil];omega) (by intro n hn;have:=HLT.out.2;simp at hn;omega)
     clear HB2 HL2;go_wp2_with fail
     refine H6.mono ?_;clear H6;rintro e w5 ⟨⟨v5,rfl,hov5⟩,hb5⟩;have HT6:Hid (TxD w w5 d v5 (txL (hdL d) g' (k+1))):=by rw [HNX.out.2];exact HT5.out.line hov5 hb5
     clear hov5 hb5 HT5;go_wp2;go_roundw
     case rel=>exact ⟨k+1,g',by omega,by go_num,HNX.out.1,HT6.out⟩
     case measure=>simp [intOf];omega
    ·have HCT:Hid (CtR f d k (some (z :: zs))):=hct
     simp only [Option.getD_some] at hsh
     have hz:=hby.1 z (List.mem_cons_self ..);obtain ⟨b,off,rfl,hbl,hc0⟩:=hby.2 (by simp)
     have c0:=hc0 0 (by simp)
     simp only [List.getD_cons_zero,Nat.add_zero] at c0
     obtain ⟨zn,hzn⟩:=Int.eq_ofNat_of_zero_le hz.1;have hsh2:zs.length+1<=256:=hsh;have HZ:Hid ((z % 256).toNat=zn/\(zs.length+1) % 65536=(z :: zs).length/\zn<=255/\(z :: zs).length<=256):=⟨by omega,by simp only [List.length_cons];omega,by omega,hsh⟩
     generalize (z :: zs).length=M at *;have hM:0<M:=by have:=HZ.out.2.1;omega
     subst hzn;have hcv:IntKind.i64.wrap (zn:Int)=(zn:Int):=IntWalk.i64_in _ (by omega)
     clear hct hby hc0 hsh hz hbl;obtain ⟨g',hg',he'⟩:=z3z (b:=hdL d) HGK.out HCT.out;have HNX:Hid ((∀ j,j<k+1->CtR f d j (g' j))/\txL (hdL d) g' (k+1)=lin (txL (hdL d) g k) (tS haS) [k,zn,M]):=⟨hg',by rw [he'];show lin _ _ [k,_,_]=_;rw [HZ.out.1,HZ.out.2.1]⟩
     clear hg' he';have HL2:Hid (Ins (w2.alloc (Obj.cells #[.int .i64 k,.int .i64 zn,.int .i64 M] 3)) (some ⟨w2.heap.size,0,none⟩) ([k,zn,M].map Int.ofNat)/\TagI (w2.alloc (Obj.cells #[.int .i64 k,.int .i64 zn,.int .i64 M] 3)) (some ⟨w2.heap.size,0,none⟩)):=
      z1g w2 ([k,zn,M].map Int.ofNat) (by intro z hz;have:=HLT.out.2;have:=HZ.out;simp at hz;omega)
     have HT5:Hid (TxD w (w2.alloc (Obj.cells #[.int .i64 k,.int .i64 zn,.int .i64 M] 3)) d u3 (txL (hdL d) g k)):=HB2.out.alloc _;have H6:=z1c (w.heap.size+1) u3 (txL (hdL d) g k) haS (some ⟨w2.heap.size,0,none⟩) 3 [k,zn,M] _ HT5.out.o HT5.out.size HL2.out.1 HL2.out.2 (by have:=wdS;have:=HLE.out;simp only [List.length_cons,List.length_nil];omega) (by intro n hn;have:=HLT.out.2;have:=HZ.out;simp at hn;omega)
     clear HB2 HL2;go_wp2_with fail
     refine H6.mono ?_;clear H6;rintro e w5 ⟨⟨v5,rfl,hov5⟩,hb5⟩;have HT6:Hid (TxD w w5 d v5 (txL (hdL d) g' (k+1))):=by rw [HNX.out.2];exact HT5.out.line hov5 hb5
     clear hov5 hb5 HT5;go_wp2;go_roundw
     case rel=>exact ⟨k+1,g',by omega,by go_num,HNX.out.1,HT6.out⟩
     case measure=>simp [intOf];omega
   ·have HCT:Hid (CtR f d k none):=hct
    clear hct hsh;obtain ⟨g',hg',he'⟩:=z3z (b:=hdL d) HGK.out HCT.out;have HNX:Hid ((∀ j,j<k+1->CtR f d j (g' j))/\txL (hdL d) g' (k+1)=lin (txL (hdL d) g k) (tS brS) [k]):=⟨hg',by rw [he'];rfl⟩
    clear hg' he';have HL2:Hid (Ins (w2.alloc (Obj.cells #[.int .i64 k] 3)) (some ⟨w2.heap.size,0,none⟩) ([k].map Int.ofNat)/\TagI (w2.alloc (Obj.cells #[.int .i64 k] 3)) (some ⟨w2.heap.size,0,none⟩)):=
     z1g w2 ([k].map Int.ofNat) (by intro z hz;have:=HLT.out.2;simp at hz;omega)
    have HT5:Hid (TxD w (w2.alloc (Obj.cells #[.int .i64 k] 3)) d u3 (txL (hdL d) g k)):=HB2.out.alloc _;have H6:=z1c (w.heap.size+1) u3 (txL (hdL d) g k) brS (some ⟨w2.heap.size,0,none⟩) 1 [k] _ HT5.out.o HT5.out.size HL2.out.1 HL2.out.2 (by have:=wdS;have:=HLE.out;simp only [List.length_cons,List.length_nil];omega) (by intro n hn;have:=HLT.out.2;simp at hn;omega)
    clear HB2 HL2;go_wp2_with fail
    refine H6.mono ?_;clear H6;rintro e w5 ⟨⟨v5,rfl,hov5⟩,hb5⟩;have HT6:Hid (TxD w w5 d v5 (txL (hdL d) g' (k+1))):=by rw [HNX.out.2];exact HT5.out.line hov5 hb5
    clear hov5 hb5 HT5;go_wp2;go_roundw
    case rel=>exact ⟨k+1,g',by omega,by go_num,HNX.out.1,HT6.out⟩
    case measure=>simp [intOf];omega
  ·have hkn:k=n:=by omega
   subst hkn;have HF:Hid (RP (.returned u3) wr):=HY2.out u3 g wr (fun i hi=>HGK.out i hi) HTX.out
   clear HTX;go_wp2;exact HF.out
theorem zem :(Tryz.prog.info? 107).map (·.zero)=some (some (.agg #[.int .i64 0,.slice none 0 0])):=by kernel_rfl
theorem zgn (v:Value) (xT:TypeId) (w:World):(Instr.typeAssert (.iface 107 v) xT 107 true).run Tryz.prog w=.ok (.tuple #[v,.bool true]) w:=by
 simp [Instr.typeAssert,run_underlying Tryz.underlying107]
theorem z5v (T:TypeId) (h:T≠107) (v:Value) (xT:TypeId) (w:World):(Instr.typeAssert (.iface T v) xT 107 true).run Tryz.prog w=.ok (.tuple #[.agg #[.int .i64 0,.slice none 0 0],.bool false]) w:=by
 obtain ⟨j,hj,hz⟩:=Option.map_eq_some_iff.1 zem
 simp [Instr.typeAssert,run_underlying Tryz.underlying107,h,zeroValue,typeInfo,hj,hz]
theorem z8j (n:Int) (a:Option Addr) (l c:Nat) (w:World):Calls Tryz.prog 63 #[.agg #[.int .i64 n,.slice a l c]] w fun e w'=>e=.returned (.slice a l c)/\Below w.heap.size w w':=by
 have hw:Bw w (w.alloc (Obj.cells #[.int .i64 n,.slice a l c] 107)):=ba
 go_enter Tryz.func63,Tryz.ntmps63
 go_wp2
 go_ret;exact ⟨rfl,hw⟩
def AdA (f:List Int->Option (List Int)) (d:DkV) (k:Nat) (B:Nat) (xs:List Int) (w:World) (r:Ending) (w':World):Prop:=
 (∃ o v,CtR f d k o/\r=.returned v/\OVB w' B v (adL xs k o))/\Below B w w'
theorem zcf (f:List Int->Option (List Int)) (hf:zz f) (d:DkV) (k:Nat) (w:World) (hb:DkI w d) (hi:ItI w d.oa d.os) (hG:DkG f d) (hd:DkF d) (hS:SentR w) (hk:k<d.ms.length)
  (B : Nat) (v : Value) (xs : List Int) (hov : OVB w B v xs) (hB : B ≤ w.heap.size) (hxs : xs.length ≤ 2000) {nm : String} (hnm : nm = "internal/strconv.uint64pow10") (htab : Lib.TabBelow Tryz.prog B w nm .u64 Lib.pow10Tab) :
  Calls Tryz.prog 28 #[.agg #[.slice d.sa d.ss.length d.sc,.slice d.pa d.ps.length d.pc,.int .i64 d.E,.int .i64 d.O,.slice d.ma d.ms.length d.mc,.slice d.va d.vs.length d.vc,.slice d.ca d.cs.length d.cc,.int .i64 d.F,.int .i64 d.G,.slice d.oa d.os.length d.oc],v,.int .i64 k] w (AdA f d k B xs w):=by
 have HW0:Hid (Below w.heap.size w (w.alloc (Obj.cells #[.slice d.sa d.ss.length d.sc,.slice d.pa d.ps.length d.pc,.int .i64 d.E,.int .i64 d.O,.slice d.ma d.ms.length d.mc,.slice d.va d.vs.length d.vc,.slice d.ca d.cs.length d.cc,.int .i64 d.F,.int .i64 d.G,.slice d.oa d.os.length d.oc] 48))):=ba;have hx0:=Dk10.new w d 48;have H1:=zbu f hf d k _ (hb.below HW0.out nl) (hi.below HW0.out nl) hG hd (hS.below HW0.out) hk
 have HB:Hid (OVB w B v xs/\B<=w.heap.size/\xs.length<=2000/\k<=16/\DkG f d):=⟨hov,hB,hxs,by have h:=hG.geo;unfold gmB at h;have h:=of_decide_eq_true h;omega,hG⟩
 have HTB : Hid (Lib.TabBelow Tryz.prog B w nm .u64 Lib.pow10Tab ∧ nm = "internal/strconv.uint64pow10") := ⟨htab, hnm⟩
 have HAN:Hid (∀ (o:Option (List Int)) (v':Value) (W:World),CtR f d k o->OVB W B v' (adL xs k o)->Below B w W->AdA f d k B xs w (.returned v') W):=fun o v' W h1 h2 h3=>⟨⟨o,v',h1,rfl,h2⟩,h3⟩
 clear hb hi hd hS hov hB hxs hnm htab hf hG;generalize AdA f d k B xs w=RP at *
 go_enter Tryz.func28,Tryz.ntmps28
 go_wp2_with fail
 generalize (w.alloc (Obj.cells #[.slice d.sa d.ss.length d.sc,.slice d.pa d.ps.length d.pc,.int .i64 d.E,.int .i64 d.O,.slice d.ma d.ms.length d.mc,.slice d.va d.vs.length d.vc,.slice d.ca d.cs.length d.cc,.int .i64 d.F,.int .i64 d.G,.slice d.oa d.os.length d.oc] 48))=W0 at *;refine H1.mono ?_;clear H1;rintro e w1 ⟨⟨o,T,u,hct,rfl,hcn⟩,hb1⟩;have HW1:Hid (Below w.heap.size w w1/\CtR f d k o):=⟨HW0.out.trans (hb1.mono HW0.out.size),hct⟩
 have HXK:Hid (OVB w1 B v xs):=HB.out.1.below HW1.out.1;have hsh:=hct.short HB.out.2.2.2.2;clear hb1 hx0 HW0 hct;rcases hcn with ⟨ls,a,c,n,rfl,hne,hv,hby,hlc⟩ | ⟨rfl,hv | hv⟩ | ⟨rfl,hv⟩
 ·injection hv with h1 h2
  subst h1 h2;obtain ⟨z,zs,rfl⟩:∃ z zs,ls=z :: zs:=by
   cases ls with
   | nil=>exact absurd rfl hne
   | cons z zs=>exact ⟨z,zs,rfl⟩
  have hA:=zgn;have hsh2:zs.length+1<=256:=hsh;have hz:=hby.1 z (List.mem_cons_self ..);obtain ⟨b,off,rfl,hbl,hc0⟩:=hby.2 (by simp)
  have c1:=hc0 0 (by simp)
  simp only [List.getD_cons_zero,Nat.add_zero] at c1
  obtain ⟨zn,hzn⟩:=Int.eq_ofNat_of_zero_le hz.1;have HZ:Hid ((z % 256).toNat=zn/\(zs.length+1) % 65536=(z :: zs).length/\zn<=255/\(z :: zs).length<=256):=⟨by omega,by simp only [List.length_cons];omega,by omega,hsh⟩
  generalize hMM:(z :: zs).length=M at *;have hM:0<M:=by have:=HZ.out.2.1;omega
  have hcv:IntKind.i64.wrap (zn:Int)=(zn:Int):=IntWalk.i64_in _ (by omega)
  rw [hzn] at c1;clear hby hc0 hsh hz hMM hsh2 hne;have H3:=fun W=>z8j n (some ⟨b,off,none⟩) M c W
  have HC1:Hid (w1.cell? ⟨b,off,none⟩=some (.int .u8 (zn:Int))/\b<w1.heap.size):=⟨c1,hbl⟩;clear c1 hbl;go_wp2_with fail
  refine (H3 _).mono ?_;clear H3;rintro e w2 ⟨rfl,hb2⟩;have hba2:Below w1.heap.size w1 w2:=((Below.refl w1.heap.size w1).alloc nl _).trans (hb2.mono (by simp))
  have c2:=keep hba2 HC1.out.2 HC1.out.1;have HW2:Hid (Below w.heap.size w w2/\OVB w2 B v xs):=⟨HW1.out.1.trans (hba2.mono HW1.out.1.size),HXK.out.below hba2⟩;clear hb2 hba2 HC1 HXK hA;have HL2:Hid (Ins (w2.alloc (Obj.cells #[.int .i64 k,.int .i64 zn,.int .i64 M] 3)) (some ⟨w2.heap.size,0,none⟩) ([k,zn,M].map Int.ofNat)/\TagI (w2.alloc (Obj.cells #[.int .i64 k,.int .i64 zn,.int .i64 M] 3)) (some ⟨w2.heap.size,0,none⟩)):=
   z1g w2 ([k,zn,M].map Int.ofNat) (by intro z hz;have:=HB.out.2.2.2.1;have:=HZ.out;simp at hz;omega)
  have hba:Below w2.heap.size w2 (w2.alloc (Obj.cells #[.int .i64 k,.int .i64 zn,.int .i64 M] 3)):=ba;have HW3:Hid (Below w.heap.size w (w2.alloc (Obj.cells #[.int .i64 k,.int .i64 zn,.int .i64 M] 3))/\OVB (w2.alloc (Obj.cells #[.int .i64 k,.int .i64 zn,.int .i64 M] 3)) B v xs):=⟨HW2.out.1.trans (hba.mono HW2.out.1.size),HW2.out.2.below hba⟩;have H6:=z0v B v xs haS (some ⟨w2.heap.size,0,none⟩) 3 [k,zn,M] _ HW3.out.2 (Nat.le_trans HB.out.2.1 HW3.out.1.size) HL2.out.1 HL2.out.2 (by have:=wdS;have:=HB.out.2.2.1;simp only [List.length_cons,List.length_nil];omega) (by intro n hn;have:=HB.out.2.2.2.1;have:=HZ.out;simp at hn;omega) HTB.out.2 (HTB.out.1.on (HW3.out.1.mono HB.out.2.1))
  clear HL2 hba HW2;go_wp2_with fail
  refine H6.mono ?_;clear H6;rintro e w5 ⟨⟨v5,rfl,hov5⟩,hb5⟩;have HF:Hid (RP (.returned v5) w5):=HAN.out (some (z :: zs)) v5 w5 HW1.out.2 (by show OVB w5 B v5 (lin xs (tS haS) [k,(z % 256).toNat,(zs.length+1) % 65536]);rw [HZ.out.1,HZ.out.2.1];exact hov5) ((HW3.out.1.mono HB.out.2.1).trans hb5)
  clear hov5 hb5 HW3 HAN;go_wp2;exact HF.out
 ·injection hv with h1 h2
  subst h1 h2;have hA:=z5v 157 (by decide)
  have hA2:=zdz 157 (by decide)
  have HW2:Hid (Below w.heap.size w w1/\OVB w1 B v xs):=⟨HW1.out.1,HXK.out⟩;clear hsh HXK;generalize w1=w2 at *;have HL2:Hid (Ins (w2.alloc (Obj.cells #[.int .i64 k] 3)) (some ⟨w2.heap.size,0,none⟩) ([k].map Int.ofNat)/\TagI (w2.alloc (Obj.cells #[.int .i64 k] 3)) (some ⟨w2.heap.size,0,none⟩)):=
   z1g w2 ([k].map Int.ofNat) (by intro z hz;have:=HB.out.2.2.2.1;simp at hz;omega)
  have hba:Below w2.heap.size w2 (w2.alloc (Obj.cells #[.int .i64 k] 3)):=ba;have HW3:Hid (Below w.heap.size w (w2.alloc (Obj.cells #[.int .i64 k] 3))/\OVB (w2.alloc (Obj.cells #[.int .i64 k] 3)) B v xs):=⟨HW2.out.1.trans (hba.mono HW2.out.1.size),HW2.out.2.below hba⟩;have H6:=z0v B v xs emS (some ⟨w2.heap.size,0,none⟩) 1 [k] _ HW3.out.2 (Nat.le_trans HB.out.2.1 HW3.out.1.size) HL2.out.1 HL2.out.2 (by have:=wdS;have:=HB.out.2.2.1;simp only [List.length_cons,List.length_nil];omega) (by intro n hn;have:=HB.out.2.2.2.1;simp at hn;omega) HTB.out.2 (HTB.out.1.on (HW3.out.1.mono HB.out.2.1))
  clear HL2 hba HW2;go_wp2_with fail
  refine H6.mono ?_;clear H6;rintro e w5 ⟨⟨v5,rfl,hov5⟩,hb5⟩;have HF:Hid (RP (.returned v5) w5):=HAN.out (some []) v5 w5 HW1.out.2 (by show OVB w5 B v5 (lin xs (tS emS) [k]);exact hov5) ((HW3.out.1.mono HB.out.2.1).trans hb5)
  clear hov5 hb5 HW3 HAN;go_wp2;exact HF.out
 ·injection hv with h1 h2
  subst h1 h2;have hA:=z5v 140 (by decide)
  have hA2:=zdz 140 (by decide)
  have HW2:Hid (Below w.heap.size w w1/\OVB w1 B v xs):=⟨HW1.out.1,HXK.out⟩;clear hsh HXK;generalize w1=w2 at *;have HL2:Hid (Ins (w2.alloc (Obj.cells #[.int .i64 k] 3)) (some ⟨w2.heap.size,0,none⟩) ([k].map Int.ofNat)/\TagI (w2.alloc (Obj.cells #[.int .i64 k] 3)) (some ⟨w2.heap.size,0,none⟩)):=
   z1g w2 ([k].map Int.ofNat) (by intro z hz;have:=HB.out.2.2.2.1;simp at hz;omega)
  have hba:Below w2.heap.size w2 (w2.alloc (Obj.cells #[.int .i64 k] 3)):=ba;have HW3:Hid (Below w.heap.size w (w2.alloc (Obj.cells #[.int .i64 k] 3))/\OVB (w2.alloc (Obj.cells #[.int .i64 k] 3)) B v xs):=⟨HW2.out.1.trans (hba.mono HW2.out.1.size),HW2.out.2.below hba⟩;have H6:=z0v B v xs emS (some ⟨w2.heap.size,0,none⟩) 1 [k] _ HW3.out.2 (Nat.le_trans HB.out.2.1 HW3.out.1.size) HL2.out.1 HL2.out.2 (by have:=wdS;have:=HB.out.2.2.1;simp only [List.length_cons,List.length_nil];omega) (by intro n hn;have:=HB.out.2.2.2.1;simp at hn;omega) HTB.out.2 (HTB.out.1.on (HW3.out.1.mono HB.out.2.1))
  clear HL2 hba HW2;go_wp2_with fail
  refine H6.mono ?_;clear H6;rintro e w5 ⟨⟨v5,rfl,hov5⟩,hb5⟩;have HF:Hid (RP (.returned v5) w5):=HAN.out (some []) v5 w5 HW1.out.2 (by show OVB w5 B v5 (lin xs (tS emS) [k]);exact hov5) ((HW3.out.1.mono HB.out.2.1).trans hb5)
  clear hov5 hb5 HW3 HAN;go_wp2;exact HF.out
 ·injection hv with h1 h2
  subst h1 h2;have hA:=z5v 110 (by decide)
  have hA2:=zhw;clear hsh;have hb0:Below w1.heap.size w1 (w1.alloc (Obj.cells #[] 110)):=ba;have hba:Below w1.heap.size w1 ((w1.alloc (Obj.cells #[] 110)).alloc (Obj.cells #[.int .i64 k] 3)):=hb0.alloc (by simp) _
  have HL2:Hid (Ins ((w1.alloc (Obj.cells #[] 110)).alloc (Obj.cells #[.int .i64 k] 3)) (some ⟨w1.heap.size+1,0,none⟩) ([k].map Int.ofNat)/\TagI ((w1.alloc (Obj.cells #[] 110)).alloc (Obj.cells #[.int .i64 k] 3)) (some ⟨w1.heap.size+1,0,none⟩)):=by
   have h:=z1g (w1.alloc (Obj.cells #[] 110)) ([k].map Int.ofNat) (by intro z hz;have:=HB.out.2.2.2.1;simp at hz;omega)
   have hs:(w1.alloc (Obj.cells #[] 110)).heap.size=w1.heap.size+1:=by simp
   rw [hs] at h;exact h
  have HW3:Hid (Below w.heap.size w ((w1.alloc (Obj.cells #[] 110)).alloc (Obj.cells #[.int .i64 k] 3))/\OVB ((w1.alloc (Obj.cells #[] 110)).alloc (Obj.cells #[.int .i64 k] 3)) B v xs):=⟨HW1.out.1.trans (hba.mono HW1.out.1.size),HXK.out.below hba⟩;have H6:=z0v B v xs brS (some ⟨w1.heap.size+1,0,none⟩) 1 [k] _ HW3.out.2 (Nat.le_trans HB.out.2.1 HW3.out.1.size) HL2.out.1 HL2.out.2 (by have:=wdS;have:=HB.out.2.2.1;simp only [List.length_cons,List.length_nil];omega) (by intro n hn;have:=HB.out.2.2.2.1;simp at hn;omega) HTB.out.2 (HTB.out.1.on (HW3.out.1.mono HB.out.2.1))
  clear HL2 hba hb0 HXK;go_wp2_with fail
  refine H6.mono ?_;clear H6;rintro e w5 ⟨⟨v5,rfl,hov5⟩,hb5⟩;have HF:Hid (RP (.returned v5) w5):=HAN.out none v5 w5 HW1.out.2 (by show OVB w5 B v5 (lin xs (tS brS) [k]);exact hov5) ((HW3.out.1.mono HB.out.2.1).trans hb5)
  clear hov5 hb5 HW3 HAN;go_wp2;exact HF.out
theorem z85 {B:Nat} {w W:World} {nm:String} (h:Lib.TabBelow Tryz.prog w.heap.size w nm .u64 Lib.pow10Tab) (hb:Below w.heap.size w W) (hB:w.heap.size<=B):Lib.TabBelow Tryz.prog B W nm .u64 Lib.pow10Tab:=fun w' h'=>h w' (hb.trans (h'.mono hB))
theorem z7c (f : List Int → Option (List Int)) (hf : zz f) (d : DkV) (w : World) (hb : DkI w d) (hi : ItI w d.oa d.os) (hd : DkF d) (hS : SentR w) {nm : String} (hnm : nm = "internal/strconv.uint64pow10") (htab : Lib.TabBelow Tryz.prog w.heap.size w nm .u64 Lib.pow10Tab) :
  Calls Tryz.prog 7 #[.agg #[.slice d.sa d.ss.length d.sc,.slice d.pa d.ps.length d.pc,.int .i64 d.E,.int .i64 d.O,.slice d.ma d.ms.length d.mc,.slice d.va d.vs.length d.vc,.slice d.ca d.cs.length d.cc,.int .i64 d.F,.int .i64 d.G,.slice d.oa d.os.length d.oc]] w (TxA (TxR f d) w):=by
 have HW0:Hid (Bw w (w.alloc (Obj.cells #[.slice d.sa d.ss.length d.sc,.slice d.pa d.ps.length d.pc,.int .i64 d.E,.int .i64 d.O,.slice d.ma d.ms.length d.mc,.slice d.va d.vs.length d.vc,.slice d.ca d.cs.length d.cc,.int .i64 d.F,.int .i64 d.G,.slice d.oa d.os.length d.oc] 48))):=ba;have hx0:=Dk10.new w d 48;have H1:=z94 f hf d _ (hb.below HW0.out nl) (hi.below HW0.out nl) hd (hS.b.below HW0.out)
 have HB : Hid (DkI w d ∧ ItI w d.oa d.os ∧ DkF d ∧ zz f ∧ SentR w ∧ Lib.TabBelow Tryz.prog w.heap.size w nm .u64 Lib.pow10Tab ∧ nm = "internal/strconv.uint64pow10") := ⟨hb, hi, hd, hf, hS, htab, hnm⟩
 have HY:Hid (DkG f d->∀ (v:Value) (g:Nat->Option (List Int)) (W:World),(∀ i,i<d.ms.length->CtR f d i (g i))->TxD w W d v (txL (hdL d) g d.ms.length)->TxA (TxR f d) w (.returned v) W):=
  fun h v g W h1 h2=>⟨⟨v,_,rfl,h2.o.weak (by omega),.inl ⟨h,g,h1,rfl⟩⟩,h2.bel⟩
 have HN:Hid (¬DkG f d->∀ (W:World),Bw w W->TxA (TxR f d) w (.returned (.slice none 0 0)) W):=
  fun h W h4=>⟨⟨_,[],rfl,OVB.nil _ _,.inr ⟨h,rfl⟩⟩,h4⟩
 clear hb hi hd hf hS htab hnm;generalize TxA (TxR f d) w=RP at *
 go_enter Tryz.func7,Tryz.ntmps7
 go_wp2_with fail
 generalize (w.alloc (Obj.cells #[.slice d.sa d.ss.length d.sc,.slice d.pa d.ps.length d.pc,.int .i64 d.E,.int .i64 d.O,.slice d.ma d.ms.length d.mc,.slice d.va d.vs.length d.vc,.slice d.ca d.cs.length d.cc,.int .i64 d.F,.int .i64 d.G,.slice d.oa d.os.length d.oc] 48))=W0 at *;refine H1.mono ?_;clear H1;rintro e w1 ⟨h1,hb1⟩;have hx1:=hx0.step hb1;have HW1:Hid (Bw w w1):=HW0.out.trans (hb1.mono HW0.out.size)
 clear hb1 hx0 HW0;rcases h1 with ⟨hG,rfl⟩ | ⟨hG,rfl⟩
 rotate_left
 ·have HF:Hid (∀ (W:World),Bw w W->RP (.returned (.slice none 0 0)) W):=HN.out hG
  clear hG HN HY;go_wp2;exact HF.out _ HW1.out
 have HG:Hid (DkG f d):=hG;have HY2:Hid _:=HY.out hG;have hgg:(d.ms.length<=16/\2<=d.ss.length/\d.ss.length<=24)/\(0<=d.E/\d.E<=60000)/\(0<=d.O/\d.O<=60000):=by
  have h:=hG.geo;unfold gmB at h;have h:=of_decide_eq_true h;exact ⟨by omega,hG.e,hG.o⟩
 have HGG:Hid _:=hgg;have HHL:Hid ((hdL d).length<=600):=z9w hG;clear hG HN HY;have HT1:Hid (TxD w w1 d (.slice none 0 0) []):=⟨HW1.out,hx1,OVB.nil _ _⟩;obtain ⟨x0,x1,x2,x3,x4,x5,x6,x7,x8,x9,xl⟩:=id hx1;clear hx1 HW1
 -- the first line
 obtain ⟨EN,hEN⟩:=Int.eq_ofNat_of_zero_le hgg.2.1.1;obtain ⟨ON,hON⟩:=Int.eq_ofNat_of_zero_le hgg.2.2.1;have HEO:Hid ((d.E=(EN:Int)/\d.O=(ON:Int))/\EN<=60000/\ON<=60000):=⟨⟨hEN,hON⟩,by omega,by omega⟩
 have HL1:Hid (Ins (w1.alloc (Obj.cells #[.int .i64 d.E,.int .i64 d.O] 3)) (some ⟨w1.heap.size,0,none⟩) ([EN,ON].map Int.ofNat)/\TagI (w1.alloc (Obj.cells #[.int .i64 d.E,.int .i64 d.O] 3)) (some ⟨w1.heap.size,0,none⟩)):=by
  rw [hEN,hON];exact z1g w1 ([EN,ON].map Int.ofNat) (by intro z hz;simp at hz;omega)
 have HHD:Hid (hdL d=lin (lin [] (tS epS) [EN,ON]) (tS frS) ((frL d (d.ss.length-2)).map Int.toNat)):=by
  show hdL d=_
  unfold hdL;rw [hEN,hON]
  rfl
 clear hEN hON hgg;have HT2:=HT1.out.alloc (Obj.cells #[.int .i64 d.E,.int .i64 d.O] 3);have H2:=z0v (w.heap.size+1) (.slice none 0 0) [] epS (some ⟨w1.heap.size,0,none⟩) 2 [EN,ON] _ HT2.o HT2.size HL1.out.1 HL1.out.2 (by have:=wdS;simp only [List.length_cons,List.length_nil];omega) (by intro n hn;have:=HEO.out;simp at hn;omega) HB.out.2.2.2.2.2.2 (z85 HB.out.2.2.2.2.2.1 HT2.bel (by omega))
 have HB2:Hid (TxD w (w1.alloc (Obj.cells #[.int .i64 d.E,.int .i64 d.O] 3)) d (.slice none 0 0) []):=HT2;clear HT2;go_wp2_with fail
 refine H2.mono ?_;clear H2;rintro e w2 ⟨⟨v2,rfl,hov2⟩,hb2⟩;have HT2:Hid (TxD w w2 d v2 (lin [] (tS epS) [EN,ON])):=HB2.out.line hov2 hb2;clear hov2 hb2 HB2 HL1 HT1 x0 x1 x2 x3 x4 x5 x6 x7 x8 x9 xl;obtain ⟨x0,x1,x2,x3,x4,x5,x6,x7,x8,x9,xl⟩:=HT2.out.bx;have H3:=zla d w2 (HB.out.1.below HT2.out.bel nl) (by have:=HGG.out;omega) HG.out.map HG.out.sav HG.out.ch HB.out.2.2.1.cs
 go_wp2_with fail
 refine H3.mono ?_;clear H3;rintro e w3 ⟨⟨fa,fc,rfl,hmf⟩,hb3⟩;have HT3:Hid (TxD w w3 d v2 (lin [] (tS epS) [EN,ON])):=HT2.out.step hb3;have H4:=z0v (w.heap.size+1) v2 (lin [] (tS epS) [EN,ON]) frS fa fc ((frL d (d.ss.length-2)).map Int.toNat) w3 HT3.out.o HT3.out.size (by rw [zfu];exact hmf.byt) hmf.tag (by
  have h1:=z27 [] (tS epS) [EN,ON] (by intro n hn;have:=HEO.out;simp at hn;omega)
  have h2:=z3v d (d.ss.length-2);have h3:=wdS;have h4:=HGG.out
  simp only [z1y,List.length_cons,List.length_nil] at h1
  rw [List.length_map]
  omega) (by
  intro n hn
  obtain ⟨z,hz,rfl⟩:=List.mem_map.1 hn;have:=z69 d _ z hz;have h4:=HGG.out
  omega) HB.out.2.2.2.2.2.2 (z85 HB.out.2.2.2.2.2.1 HT3.out.bel (by omega))
 rw [List.length_map,<-HHD.out] at H4;clear hmf hb3 HT2 x0 x1 x2 x3 x4 x5 x6 x7 x8 x9 xl;go_wp2_with fail
 refine H4.mono ?_;clear H4;rintro e w4 ⟨⟨v4,rfl,hov4⟩,hb4⟩;have HT4:Hid (TxD w w4 d v4 (txL (hdL d) (fun _=>none) 0)):=HT3.out.line hov4 hb4
 clear hov4 hb4 HT3;obtain ⟨x0,x1,x2,x3,x4,x5,x6,x7,x8,x9,xl⟩:=HT4.out.bx;clear HHD;generalize hnl:d.ms.length=n at *;have HNL:Hid (d.ms.length=n/\n<=16):=⟨hnl,HGG.out.1.1⟩;have hn16:n<=16:=HNL.out.2;go_wp2_with fail
 clear x0 x1 x2 x3 x4 x5 x6 x7 x8 x9 xl
 go_loopw [3,22] (fun v i wr=>∃ (k:Nat) (g:Nat->Option (List Int)),k<=n/\i=.int .i64 k/\(∀ j,j<k->CtR f d j (g j))/\TxD w wr d v (txL (hdL d) g k)) (fun _ i _=>n-(intOf i).toNat)
 case atStart=>exact ⟨0,fun _=>none,Nat.zero_le _,rfl,fun j hj=>absurd hj (Nat.not_lt_zero j),HT4.out⟩
 case round=>
  clear HT4;obtain ⟨k,g,hk,rfl,hg,htx⟩:=hrel;have HGK:Hid (∀ j,j<k->CtR f d j (g j)):=hg;have HTX:Hid (TxD w wr d u3 (txL (hdL d) g k)):=htx;have HLE:Hid ((txL (hdL d) g k).length<=2000):=by
   have h1:=z66 (hdL d) g k (by have:=HNL.out.2;omega)
   have h2:=HHL.out;have h3:=HNL.out.2;exact (by omega:(txL (hdL d) g k).length<=2000)
  obtain ⟨x0,x1,x2,x3,x4,x5,x6,x7,x8,x9,xl⟩:=htx.bx;rw [hnl] at x4;clear hg htx
  by_cases hlt:k<n
  ·have HLT:Hid (k<d.ms.length/\k<=16):=⟨by rw [HNL.out.1];exact hlt,by have:=HNL.out.2;omega⟩
   have H5:=zcf f HB.out.2.2.2.1 d k wr (HB.out.1.below HTX.out.bel nl) (HB.out.2.1.below HTX.out.bel nl) HG.out HB.out.2.2.1 (HB.out.2.2.2.2.1.below HTX.out.bel) HLT.out.1 (w.heap.size+1) u3 (txL (hdL d) g k) HTX.out.o HTX.out.size HLE.out HB.out.2.2.2.2.2.2 (z85 HB.out.2.2.2.2.2.1 HTX.out.bel (by omega))
   rw [hnl] at H5;go_wp2_with fail
   clear x0 x1 x2 x3 x4 x5 x6 x7 x8 x9 xl;refine H5.mono ?_;clear H5;rintro e w5 ⟨⟨o,v5,hct,rfl,hov5⟩,hb5⟩;obtain ⟨g',hg',he'⟩:=z3z (b:=hdL d) HGK.out hct;have HNX:Hid ((∀ j,j<k+1->CtR f d j (g' j))/\TxD w w5 d v5 (txL (hdL d) g' (k+1))):=⟨hg',by rw [he'];exact HTX.out.line hov5 hb5⟩
   clear hg' he' hct hov5 hb5 HTX;go_wp2;go_roundw
   case rel=>exact ⟨k+1,g',by omega,by go_num,HNX.out.1,HNX.out.2⟩
   case measure=>simp [intOf];omega
  ·have hkn:k=n:=by omega
   subst hkn;have HF:Hid (RP (.returned u3) wr):=HY2.out u3 g wr (fun i hi=>HGK.out i hi) HTX.out
   clear HTX;go_wp2;exact HF.out
end Go.Proofs.YtkomjdjfknpinaaGreatDoor
