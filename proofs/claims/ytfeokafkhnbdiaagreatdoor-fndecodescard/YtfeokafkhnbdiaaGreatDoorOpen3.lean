/- Lemmas on the way. -/
import Derived.BigQuiet
import Derived.Test.YtfeokafkhnbdiaaGreatDoorEnS
import Derived.Test.YtfeokafkhnbdiaaGreatDoorWidth
import Derived.Test.YtfeokafkhnbdiaaGreatDoorOwn1
import Derived.Deep.RegionWith
import Derived.Test.YtfeokafkhnbdiaaGreatDoorPcA
import Derived.Test.YtfeokafkhnbdiaaGreatDoorEnK
import Derived.Laws.CopyOwn
set_option maxRecDepth 20000
set_option maxHeartbeats 16000000
namespace Go.Proofs.YtfeokafkhnbdiaaGreatDoor
open Go.RowKit
set_option linter.unusedVariables false
set_option linter.unusedSimpArgs false
def enK (ys:List Int):Nat→List Int
 | 0=>0 :: ys
 | k+1=>match pkO ((k+1:Nat):Int) ys with
  | some b=>if b.length<(enK ys k).length then b else enK ys k
  | none=>enK ys k
def enO (ys:List Int):Option (List Int):=if ys.length=64 then some (enK ys 3) else none
theorem enK_none {ys:List Int} {k:Nat} (h:pkO ((k+1:Nat):Int) ys=none):enK ys (k+1)=enK ys k:=by
 rw [enK,h]
theorem enK_some {ys:List Int} {k:Nat} {b:List Int} (h:pkO ((k+1:Nat):Int) ys=some b):enK ys (k+1)=if b.length<(enK ys k).length then b else enK ys k:=by
 rw [enK,h]
theorem enK_len {ys:List Int} (hn:ys.length=64):∀ k,(enK ys k).length≤65
 | 0=>by simp [enK];omega
 | k+1=>by
  have ih:=enK_len hn k
  cases h:pkO ((k+1:Nat):Int) ys with
  | none=>rw [enK_none h];exact ih
  | some b=>
   rw [enK_some h]
   split <;> omega
theorem pkO_len {ys:List Int} {x:Int} {b:List Int} (hr:∀ z ∈ ys,0≤z∧z≤255) (h:pkO x ys=some b):b.length≤601:=by
 unfold pkO at h
 split at h
 ·cases h
 ·rename_i hn
  have hn':ys.length=64:=by omega
  have hs:=syF_all hn' hr
  have h2:=sqB_len hs 2
  have h3:=sqB_len hs 3
  split at h
  ·simp only [Option.some.injEq] at h;subst h;simp;omega
  ·split at h
   ·split at h
    ·simp only [Option.some.injEq] at h;subst h;simp
    ·cases h
   ·split at h
    ·simp only [Option.some.injEq] at h;subst h;simp;omega
    ·split at h
     ·simp only [Option.some.injEq] at h;subst h;simp;omega
     ·cases h
theorem encode_abs (K:Nat→List Int) (O:Nat→Option (List Int)) (n:Nat) (a:Option Addr) (c:Nat) (w:World) (h0:O 0=some (K 0)) (hno:∀ k,O (k+1)=none→K (k+1)=K k) (hso:∀ k b,O (k+1)=some b→K (k+1)=if b.length<(K k).length then b else K k) (hKl:∀ k,(K k).length≤65) (hOl:∀ k b,O k=some b→b.length≤601)
  (hP:∀ (k:Nat) (W:World),Below w.heap.size w W→Calls Tryz.prog 27 #[.slice a n c,.int .i64 (k:Nat)] W fun e w'=>pkA W w' (O k) e) :
  Calls Tryz.prog 31 #[.slice a n c] w fun e w'=>pkA w w' (some (K 3)) e:=by
 have HP:Hid (∀ (k:Nat) (W:World),Below w.heap.size w W→Calls Tryz.prog 27 #[.slice a n c,.int .i64 (k:Nat)] W fun e w'=>pkA W w' (O k) e):=hP
 have HK:Hid ((∀ k,O (k+1)=none→K (k+1)=K k)∧(∀ k b,O (k+1)=some b→K (k+1)=if b.length<(K k).length then b else K k)∧(∀ k,(K k).length≤65)∧(∀ k b,O k=some b→b.length≤601)):=⟨hno,hso,hKl,hOl⟩
 have hP0:Calls Tryz.prog 27 #[.slice a n c,.int .i64 0] w fun e w'=>pkA w w' (O 0) e:=hP 0 w (Below.refl _ _)
 rw [h0] at hP0
 clear hP hno hso hKl hOl h0
 ·skip
  go_enter Tryz.func31,Tryz.ntmps31
  go_wp2_with fail
  refine hP0.mono ?_
  clear hP0
  rintro e w1 ⟨⟨a1,c1,rfl,hm1⟩,hb1⟩
  have H1:Hid (Mine w1 w.heap.size w1.heap.size a1 c1 (K 0)∧Below w.heap.size w w1):=⟨hm1,hb1⟩
  clear hm1 hb1
  simp only [Option.getD_some,Option.isSome_some]
  go_wp2
  go_loopw [4,6] (fun bv mv W=>∃ (k:Nat) (a':Option Addr) (c':Nat),k≤3∧mv=.int .i64 ((k+1:Nat):Int)∧bv=.slice a' (K k).length c'∧Mine W w.heap.size W.heap.size a' c' (K k)∧Below w.heap.size w W) (fun _ mv _=>4-(intOf mv).toNat)
  case atStart=>exact ⟨0,a1,c1,by omega,rfl,rfl,H1.out⟩
  case round=>
   clear H1
   obtain ⟨k,a',c',hk,rfl,rfl,hm,hbel⟩:=hrel
   have HR:Hid (Mine wr w.heap.size wr.heap.size a' c' (K k)∧Below w.heap.size w wr):=⟨hm,hbel⟩
   have hlen:=HK.out.2.2.1 k
   clear hm hbel
   by_cases hlt:k<3
   ·have hlt2:((k+1:Nat):Int)≤3:=by omega
    have hlt3:(k:Int)+1≤3:=by omega
    have hP:=HP.out (k+1) wr HR.out.2
    cases ho:O (k+1) with
    | none=>
     have HE:=HK.out.1 k ho
     rw [ho] at hP
     have HEQ:Hid (K (k+1)=K k∧True):=⟨HE,trivial⟩
     clear HE ho
     go_wp2_with fail
     refine hP.mono ?_
     clear hP
     rintro e w2 ⟨⟨a2,c2,rfl,-⟩,hb2⟩
     have HR2:Hid (Mine w2 w.heap.size w2.heap.size a' c' (K (k+1))∧Below w.heap.size w w2∧(K (k+1)).length=(K k).length):=by
      unfold Hid
      rw [HEQ.out.1]
      exact ⟨(HR.out.1.below hb2).mono nl hb2.size,HR.out.2.trans (hb2.mono HR.out.2.size),rfl⟩
     clear hb2 HR
     simp only [Option.getD_none,Option.isSome_none,List.length_nil]
     go_wp2
     go_roundw
     case rel=>exact ⟨k+1,a',c',by omega,by go_num,by rw [HR2.out.2.2],HR2.out.1,HR2.out.2.1⟩
     case measure=>simp [intOf];omega
    | some b=>
     have HE:=HK.out.2.1 k _ ho
     have hbl:=HK.out.2.2.2 _ _ ho
     rw [ho] at hP
     by_cases hlb:b.length<(K k).length
     ·rw [if_pos hlb] at HE
      have HEQ:Hid (K (k+1)=b∧True):=⟨HE,trivial⟩
      have hd:(b.length:Int)<((K k).length:Int):=by omega
      clear HE ho
      go_wp2_with fail
      refine hP.mono ?_
      clear hP
      rintro e w2 ⟨⟨a2,c2,rfl,hm2⟩,hb2⟩
      have HR2:Hid (Mine w2 w.heap.size w2.heap.size a2 c2 (K (k+1))∧Below w.heap.size w w2∧(K (k+1)).length=b.length):=by
       unfold Hid
       rw [HEQ.out.1]
       exact ⟨hm2.mono HR.out.2.size nl,HR.out.2.trans (hb2.mono HR.out.2.size),rfl⟩
      clear hb2 HR hm2
      simp only [Option.getD_some,Option.isSome_some]
      go_wp2
      go_roundw
      case rel=>exact ⟨k+1,a2,c2,by omega,by go_num,by rw [HR2.out.2.2],HR2.out.1,HR2.out.2.1⟩
      case measure=>simp [intOf];omega
     ·rw [if_neg hlb] at HE
      have HEQ:Hid (K (k+1)=K k∧True):=⟨HE,trivial⟩
      have hd:¬(b.length:Int)<((K k).length:Int):=by omega
      clear HE ho
      go_wp2_with fail
      refine hP.mono ?_
      clear hP
      rintro e w2 ⟨⟨a2,c2,rfl,-⟩,hb2⟩
      have HR2:Hid (Mine w2 w.heap.size w2.heap.size a' c' (K (k+1))∧Below w.heap.size w w2∧(K (k+1)).length=(K k).length):=by
       unfold Hid
       rw [HEQ.out.1]
       exact ⟨(HR.out.1.below hb2).mono nl hb2.size,HR.out.2.trans (hb2.mono HR.out.2.size),rfl⟩
      clear hb2 HR
      simp only [Option.getD_some,Option.isSome_some]
      go_wp2
      go_roundw
      case rel=>exact ⟨k+1,a',c',by omega,by go_num,by rw [HR2.out.2.2],HR2.out.1,HR2.out.2.1⟩
      case measure=>simp [intOf];omega
   ·have hk3:k=3:=by omega
    subst hk3
    go_wp2
    go_ret2
    exact ⟨⟨a',c',rfl,HR.out.1⟩,HR.out.2⟩
theorem implEncode_any (a:Option Addr) (c:Nat) (ys:List Int) (w:World) (hb:Byt w a ys) (hcap:ys.length≤c) (hs:SentE w) :
  Calls Tryz.prog 31 #[.slice a ys.length c] w fun e w'=>pkA w w' (enO ys) e:=by
 by_cases hn:ys.length=64
 ·have h:=encode_abs (enK ys) (fun k=>pkO (k:Nat) ys) ys.length a c w (by show pkO 0 ys=_;unfold pkO;rw [if_neg (by simpa using hn),if_pos rfl];rfl) (fun k h=>enK_none h) (fun k b h=>enK_some h) (fun k=>enK_len hn k) (fun k b h=>pkO_len hb.1 h) (fun k W hW=>implPacked_any a c ys k W (hb.below hW nl) hcap (hs.below hW))
  unfold enO
  rw [if_pos hn]
  exact h
 ·have hP0:=implPacked_any a c ys 0 w hb hcap hs
  have HL:Hid (enO ys=none):=by unfold Hid enO;rw [if_neg hn]
  have h00:pkO 0 ys=none:=by unfold pkO;rw [if_pos hn]
  rw [h00] at hP0
  rw [HL.out]
  clear h00 hb hs
  go_enter Tryz.func31,Tryz.ntmps31
  go_wp2_with fail
  refine hP0.mono ?_
  clear hP0
  rintro e w1 ⟨⟨a1,c1,rfl,hm1⟩,hb1⟩
  have HF:Hid (Below w.heap.size w w1):=hb1
  clear hm1 hb1
  simp only [Option.getD_none,Option.isSome_none,List.length_nil]
  go_wp2
  go_ret2
  exact pkA.no HF.out
theorem sqB_pos (mode:Nat) (ys:List Int):1≤(sqB mode ys).length:=by
 unfold sqB
 rw [enc_len]
 omega
theorem enK_alike {ys:List Int} (hn:ys.length=64) (h:alikeB ys=true):enK ys 3=[1,ys.getD 0 0]:=by
 have h1:enK ys 1=[1,ys.getD 0 0]:=by
  have e:pkO ((0+1:Nat):Int) ys=some [1,ys.getD 0 0]:=by
   unfold pkO
   rw [if_neg (by simpa using hn),if_neg (by decide),if_pos (by rfl),if_pos h]
  rw [enK_some e,if_pos]
  show 2<(0 :: ys).length
  simp only [List.length_cons]
  omega
 have h2:enK ys 2=[1,ys.getD 0 0]:=by
  have e:pkO ((1+1:Nat):Int) ys=some (2 :: sqB 2 ys):=by
   unfold pkO
   rw [if_neg (by simpa using hn),if_neg (by decide),if_neg (by decide),if_pos (by rfl)]
  rw [enK_some e,h1,if_neg]
  have:=sqB_pos 2 ys
  simp only [List.length_cons,List.length_nil]
  omega
 have e:pkO ((2+1:Nat):Int) ys=some (3 :: sqB 3 ys):=by
  unfold pkO
  rw [if_neg (by simpa using hn),if_neg (by decide),if_neg (by decide),if_neg (by decide),if_pos (by rfl)]
 rw [enK_some e,h2,if_neg]
 have:=sqB_pos 3 ys
 simp only [List.length_cons,List.length_nil]
 omega
theorem enO_alike {ys:List Int} (hn:ys.length=64) (h:alikeB ys=true):enO ys=some [1,ys.getD 0 0]:=by
 unfold enO
 rw [if_pos hn,enK_alike hn h]
theorem enO_noughts :enO (List.replicate 64 0)=some [1,0]:=enO_alike (by simp) (by simp [alikeB])
def openY (zs:List Int) (L b:Nat) (t:Nat):List Int:=if b=0 then zs.take L else zs.set L ((t-2 ^ b:Nat):Int)
theorem keepF {B:Nat} {w w':World} (h:Below B w w') {b o:Nat} (hb:b<B) (hf:w.frozen? ⟨b,o,none⟩=false):w'.frozen? ⟨b,o,none⟩=false:=(h.frozen (p:=⟨b,o,none⟩) hb).trans hf
theorem keepAF {w:World} (ob:Obj) {b o:Nat} (hb:b<w.heap.size) (hf:w.frozen? ⟨b,o,none⟩=false):(w.alloc ob).frozen? ⟨b,o,none⟩=false:=keepF ((Below.refl w.heap.size w).alloc nl ob) hb hf
theorem Mine.setC {w:World} {B U:Nat} {a:Option Addr} {cap:Nat} {zs:List Int} (h:Mine w B U a cap zs) {p:Addr} (hp:p.block<B) (u:Value):Mine (w.setCell p u) B U a cap zs:=
 h.only (Only.setCell (Only.refl (fun b=>b=p.block) w) (.inl rfl) u) (fun b h1 _=>by omega)
theorem openY_len (zs:List Int) (L b t:Nat) (hL:zs.length=L+1):(openY zs L b t).length=(8*L+b+7) / 8∨8≤b:=by
 by_cases hb:b=0
 ·left
  rw [openY,if_pos hb,List.length_take,hL,hb]
  omega
 ·by_cases h8:b<8
  ·left
   rw [openY,if_neg hb,List.length_set,hL]
   omega
  ·right;omega
theorem okB_open (zs:List Int) (L b t:Nat) (hL:zs.length=L+1) (h1:2 ^ b≤t) (h2:t<2 ^ (b+1)) (hb:b<8) :
  okB ((8*L+b:Nat):Int) (openY zs L b t)=decide (8*L+b≤4096):=by
 have hlen:(openY zs L b t).length=(8*L+b+7) / 8:=(openY_len zs L b t hL).resolve_right (by omega)
 by_cases hn:8*L+b≤4096
 ·rw [decide_eq_true hn]
  by_cases hb0:b=0
  ·subst hb0
   exact okB_full (by omega) (by omega) (by rw [hlen];omega) (by omega)
  ·rw [okB_last (by omega) (by omega) (by rw [hlen];omega) (by omega),hlen]
   rw [show (8*L+b+7) / 8-1=L from by omega,show (((8*L+b:Nat):Int) % 8).toNat=b from by omega]
   have hg:(openY zs L b t).getD L 0=((t-2 ^ b:Nat):Int):=by
    rw [openY,if_neg hb0]
    simp [hL]
   rw [hg]
   have hz:(t-2 ^ b) / 2 ^ b=0:=by
    rw [Nat.pow_succ] at h2
    exact Nat.div_eq_of_lt (by omega)
   have e:(((t-2 ^ b:Nat):Int) / 2 ^ b)=(((t-2 ^ b) / 2 ^ b:Nat):Int):=by
    have:((2:Int) ^ b)=((2 ^ b:Nat):Int):=by simp
    rw [this];rfl
   rw [e,hz]
   rfl
 ·rw [decide_eq_false hn]
  exact okB_big (by omega)
set_option maxRecDepth 100000 in
theorem len8_any (t b:Nat) (w:World) (h1:2 ^ b≤t) (h2:t<2 ^ (b+1)) (hb:b<8) :
  Calls Tryz.prog 134 #[.int .u8 (t:Int)] w fun e w'=>e=.returned (.int .i64 ((b:Int)+1))∧w'=w:=by
 have h256:t<256:=Nat.lt_of_lt_of_le h2 (Nat.pow_le_pow_right (n:=2) (by omega) (show b+1≤8 by omega))
 have hi:(t:Int)<256:=by omega
 have H1:Hid (2 ^ b≤t):=h1
 have H2:Hid (t<2 ^ (b+1)):=h2
 clear h1 h2
 go_enter Tryz.func134,Tryz.ntmps134
 go_wp2
 go_ret
 refine ⟨ret_int ?_,rfl⟩
 have e:∀ (S:ByteArray) (h:t<S.size),S[t]=S.data.toList.getD t 0:=by
  intro S h
  have h':t<S.data.toList.length:=by simpa using h
  rw [List.getD_eq_getElem?_getD,List.getElem?_eq_getElem h']
  rfl
 rw [e]
 have h1:=H1.out
 have h2:=H2.out
 clear e hi H1 H2
 revert h2 h1
 revert b
 intro b hb
 revert b
 revert h256
 revert t
 decide +kernel
theorem andNot_all :∀ t,t<256→∀ b,b<8→2 ^ b≤t→t<2 ^ (b+1)→t &&& (255-2 ^ b)=t-2 ^ b:=by decide +kernel
theorem made_blockO {w:World} {B g n:Nat} (h:w.ownsRow B 5 1 (.slice (some ⟨g,0,none⟩) n n) n (madeCells (Value.int .u8 0).cells (n*1)).toList) :
  w.heap[g]?=some (.cells ((List.replicate n (0:Int)).map (Value.int .u8)).toArray 5 (0,0)):=by
 rcases h.2 with ⟨h',_⟩ | ⟨g',cap',cur,h',hg,hh,h1,h2,h3,h4⟩
 ·simp at h'
 ·simp only [Value.slice.injEq,Option.some.injEq,Addr.mk.injEq,and_true,true_and] at h'
  obtain ⟨rfl,rfl⟩:=h'
  rw [hh,←made_zero,←h4]
  rw [List.take_of_length_le (by simp [h3])]
theorem copy_done {w w1:World} {x0 x1 y0 y1:Value} {T U:TypeId} {M:Nat} {Z:List Int} (hb:Below (w.heap.size+1) (w.alloc (.cells #[x0,x1] T)) w1) (hs:w.heap.size+1<w1.heap.size)
  (hk:w1.heap[w.heap.size+1]?=some (.cells ((List.replicate M (0:Int)).map (Value.int .u8)).toArray 5 (0,0))) (hZ:Z.length=M) (hr:∀ z ∈ Z,0≤z∧z≤255) (hM:M≤1048576) {W:World}
  (hW:(w1.alloc (.cells #[y0,y1] U)).setRow (w.heap.size+1) ((((List.replicate M (0:Int)).map (Value.int .u8)).toArray.toList.take 0++(Z.map (Value.int .u8)++((List.replicate M (0:Int)).map (Value.int .u8)).toArray.toList.drop (0+(Z.map (Value.int .u8)).length))).toArray)=W) :
  Own W (w.heap.size+1) (w.heap.size+1) M Z∧W.cell? ⟨w1.heap.size,0,none⟩=some y0∧W.cell? ⟨w1.heap.size,1,none⟩=some y1∧W.cell? ⟨w.heap.size,0,none⟩=some x0∧W.cell? ⟨w.heap.size,1,none⟩=some x1 ∧
   W.frozen? ⟨w.heap.size,0,none⟩=false∧W.frozen? ⟨w.heap.size,1,none⟩=false∧Below w.heap.size w W∧W.heap.size=w1.heap.size+1:=by
 subst hW
 have hrow:(((List.replicate M (0:Int)).map (Value.int .u8)).toArray.toList.take 0++(Z.map (Value.int .u8)++((List.replicate M (0:Int)).map (Value.int .u8)).toArray.toList.drop (0+(Z.map (Value.int .u8)).length)))=Z.map (Value.int .u8):=by
  simp [hZ]
 rw [hrow]
 have h1:(w1.alloc (.cells #[y0,y1] U)).heap[w.heap.size+1]?=some (.cells ((List.replicate M (0:Int)).map (Value.int .u8)).toArray 5 (0,0)):=by rw [Below.heap_alloc _ _ _ hs];exact hk
 have h2:=setRow_heap _ _ _ (Z.map (Value.int .u8)).toArray _ _ h1
 have ho:Only (fun k=>k=w.heap.size+1) (w1.alloc (.cells #[y0,y1] U)) ((w1.alloc (.cells #[y0,y1] U)).setRow (w.heap.size+1) (Z.map (Value.int .u8)).toArray):=
  ⟨rfl,rfl,rfl,by simp,fun k _ hne=>setRow_other _ _ _ _ hne⟩
 have hbw:Below w.heap.size w (w1.alloc (.cells #[y0,y1] U)):=(((Below.refl w.heap.size w).alloc nl _).trans (hb.mono (by omega))).alloc (by omega) _
 have fz:∀ j,((w1.alloc (.cells #[y0,y1] U)).setRow (w.heap.size+1) (Z.map (Value.int .u8)).toArray).frozen? ⟨w.heap.size,j,none⟩=false:=by
  intro j
  rw [World.frozen?_of_block (a:=⟨w.heap.size,j,none⟩) (ho.block w.heap.size (by simp;omega) (by omega))]
  exact keepAF _ (by omega) (keepF hb (by omega) (by simp))
 refine ⟨⟨⟨by simp,.inr ⟨_,M,_,by rw [hZ],Nat.le_refl _,h2,by omega,by unfold maxLen;omega,by simp [hZ],by rw [Nat.mul_one];exact List.take_of_length_le (by simp)⟩⟩,hr⟩,?_,?_,?_,?_,fz 0,fz 1,?_,by simp⟩
 ·exact ho.cell (by simp) (by omega) (by simp)
 ·exact ho.cell (by simp) (by omega) (by simp)
 ·exact ho.cell (by simp;omega) (by omega) (keepA _ (by omega) (keep hb (by omega) (by simp)))
 ·exact ho.cell (by simp;omega) (by omega) (keepA _ (by omega) (keep hb (by omega) (by simp)))
 ·exact hbw.trans (ho.below (by simp;omega) (fun k hk=>by omega))
set_option maxRecDepth 100000 in
theorem implOpen_no (a:Option Addr) (cap:Nat) (zs:List Int) (w:World) (hb:Byt w a zs) (hl:zs.length≤1048576)
  (h:zs=[]∨zs.getD (zs.length-1) 0=0∨∃ L b t:Nat,zs.length=L+1∧zs.getD L 0=(t:Int)∧2 ^ b≤t∧t<2 ^ (b+1)∧b<8∧4096<8*L+b) :
  Calls Tryz.prog 105 #[.slice a zs.length cap] w fun e w'=>e=.returned (.tuple #[.agg #[.slice none 0 0,.int .i64 0],.bool false])∧Below w.heap.size w w':=by
 have hw:Below w.heap.size w (w.alloc (Obj.cells #[.slice none 0 0,.int .i64 0] 40)):=bAw
 have h512:((4096:Int)+7) / 8=512:=by decide
 by_cases hp:0<zs.length
 ·obtain ⟨ab,off,rfl,hbl,hc⟩:=hb.2 hp
  by_cases hbig:512<zs.length-1
  ·clear h hc
   go_enter Tryz.func105,Tryz.ntmps105
   go_wp2_with fail
   refine (bytesFor_any 4096 _ (by omega) (by omega)).mono ?_
   rintro e w1 ⟨rfl,rfl⟩
   rw [h512]
   go_wp2
   exact bodyPost_ret (v:=.tuple #[.agg #[.slice none 0 0,.int .i64 0],.bool false]) (by simp [results,Tryz.results105,go_sem]) rfl ⟨rfl,by repeat (first | exact hw | refine Below.setCell ?_ (by simp) _)⟩
  ·by_cases h0:zs.getD (zs.length-1) 0=0
   ·have hcl:=hc (zs.length-1) (by omega)
    rw [h0] at hcl
    have hz:((0:Int) == 0)=true:=rfl
    clear h hc h0
    go_enter Tryz.func105,Tryz.ntmps105
    go_wp2_with fail
    refine (bytesFor_any 4096 _ (by omega) (by omega)).mono ?_
    rintro e w1 ⟨rfl,rfl⟩
    rw [h512]
    go_wp2
    exact bodyPost_ret (v:=.tuple #[.agg #[.slice none 0 0,.int .i64 0],.bool false]) (by simp [results,Tryz.results105,go_sem]) rfl ⟨rfl,by repeat (first | exact hw | refine Below.setCell ?_ (by simp) _)⟩
   ·obtain ⟨L,b,t,hL,ht,h1,h2,hb8,hn⟩:∃ L b t:Nat,zs.length=L+1∧zs.getD L 0=(t:Int)∧2 ^ b≤t∧t<2 ^ (b+1)∧b<8∧4096<8*L+b:=by
     rcases h with rfl | h | h
     ·simp at hp
     ·exact absurd h h0
     ·exact h
    have hcl:=hc L (by omega)
    rw [ht] at hcl
    have ht1:1≤t:=Nat.le_trans (Nat.pow_pos (by omega)) h1
    have hne:((t:Int) == 0)=false:=by rw [beq_eq_false_iff_ne];omega
    have hbig':L≤512:=by omega
    rw [hL]
    have H1:Hid (2 ^ b≤t):=h1
    have H2:Hid (t<2 ^ (b+1)):=h2
    clear h hc h0 ht h1 h2 hL hbig hp hl
    go_enter Tryz.func105,Tryz.ntmps105
    go_wp2_with fail
    refine (bytesFor_any 4096 _ (by omega) (by omega)).mono ?_
    rintro e w1 ⟨rfl,rfl⟩
    rw [h512]
    go_wp2_with fail
    refine (len8_any t b _ H1.out H2.out hb8).mono ?_
    rintro e w1 ⟨rfl,rfl⟩
    go_wp2
    exact bodyPost_ret (v:=.tuple #[.agg #[.slice none 0 0,.int .i64 0],.bool false]) (by simp [results,Tryz.results105,go_sem]) rfl ⟨rfl,by repeat (first | exact hw | refine Below.setCell ?_ (by simp) _)⟩
 ·have hz:zs.length=0:=by omega
  rw [hz]
  clear h hz hp
  go_enter Tryz.func105,Tryz.ntmps105
  go_wp2
  exact bodyPost_ret (v:=.tuple #[.agg #[.slice none 0 0,.int .i64 0],.bool false]) (by simp [results,Tryz.results105,go_sem]) rfl ⟨rfl,by repeat (first | exact hw | refine Below.setCell ?_ (by simp) _)⟩
set_option maxRecDepth 100000 in
theorem implOpen_yes (a:Option Addr) (cap:Nat) (zs:List Int) (L b t:Nat) (w:World) (hb:Byt w a zs) (hL:zs.length=L+1) (ht:zs.getD L 0=(t:Int)) (h1:2 ^ b≤t) (h2:t<2 ^ (b+1)) (hb8:b<8) (hn:8*L+b≤4096) :
  Calls Tryz.prog 105 #[.slice a (L+1) cap] w fun e w'=>∃ a' cp,e=.returned (.tuple #[.agg #[.slice a' (openY zs L b t).length cp,.int .i64 ((8*L+b:Nat):Int)],.bool true]) ∧
   Mine w' w.heap.size w'.heap.size a' cp (openY zs L b t)∧Below w.heap.size w w':=by
 obtain ⟨i0,hi,hz0,hz1,hz2⟩:=info_parts Tryz.infoU8
 have hsz:(Tryz.prog.info? 5).map (·.size)=some 1:=by rw [hi];simp [hz1]
 have h512:((4096:Int)+7) / 8=512:=by decide
 obtain ⟨ab,off,rfl,hbl,hc⟩:=hb.2 (by omega)
 have hcL:=hc L (by omega)
 rw [ht] at hcL
 have ht1:1≤t:=Nat.le_trans (Nat.pow_pos (by omega)) h1
 have hne:((t:Int) == 0)=false:=by rw [beq_eq_false_iff_ne];omega
 have hL5:L≤512:=by omega
 have HT:Hid (zs.getD L 0=(t:Int)):=ht
 have HL:Hid (zs.length=L+1):=hL
 have HC:Hid (∀ i,i<zs.length→w.cell? ⟨ab,off+i,none⟩=some (.int .u8 (zs.getD i 0))):=hc
 have H1:Hid (2 ^ b≤t):=h1
 have H2:Hid (t<2 ^ (b+1)):=h2
 clear hc ht hL h1 h2
 obtain ⟨q,hq⟩:∃ q,q=8*L+b:=⟨_,rfl⟩
 have HQ:Hid (q=8*L+b):=hq
 obtain ⟨M,hM⟩:∃ M,M=(q+7) / 8:=⟨_,rfl⟩
 have HM:Hid (M=(q+7) / 8):=hM
 have hML:M≤L+1:=by omega
 have hM5:M≤513:=by omega
 have hq4:q≤4096:=by omega
 clear hq hM
 have hZl:(zs.take M).length=M:=by rw [List.length_take,HL.out];omega
 have HZL:Hid ((zs.take M).length=M):=hZl
 have hnews:∀ W:World,(∀ i,w.cell? ⟨ab,off+i,none⟩=W.cell? ⟨ab,off+i,none⟩)→∀ i u,((zs.take M).map (Value.int .u8))[i]?=some u→W.cell? ((⟨ab,off,none⟩:Addr).add i)=some u:=by
  intro W hW
  refine news_of (fun i hi=>?_)
  have hiM:i<M:=by rw [hZl] at hi;exact hi
  rw [show (zs.take M).getD i 0=zs.getD i 0 from by simp [hiM],←hW]
  exact HC.out i (by have:=HL.out;omega)
 have HNEWS:Hid _:=hnews
 clear hnews hZl
 go_enter Tryz.func105,Tryz.ntmps105
 go_wp2_with fail
 refine (bytesFor_any 4096 _ (by omega) (by omega)).mono ?_
 rintro e w1 ⟨rfl,rfl⟩
 rw [h512]
 go_wp2_with fail
 refine (len8_any t b _ H1.out H2.out hb8).mono ?_
 rintro e w1 ⟨rfl,rfl⟩
 go_wp2_with fail
 rw [show (8*(L:Int)+((b:Int)+1)-1)=(q:Int) from by have:=HQ.out;omega]
 refine (bytesFor_any (q:Int) _ (by omega) (by omega)).mono ?_
 rintro e w1 ⟨rfl,rfl⟩
 rw [show (((q:Int)+7) / 8)=(M:Int) from by have:=HM.out;omega]
 by_cases hb0:b=0
 ·have hu:((q:Int) % 8 != 0)=false:=by rw [bne_eq_false_iff_eq];have:=HQ.out;omega
  go_wp2_with (first
   | (at_make;refine wpList_make_full _ rfl _ _ 22 rfl (w.heap.size+1) 5 i0 (.int .u8 0) 1 Tryz.underlying22 hi hz0 hz1 .i64 .i64 _ _ M rfl rfl rfl rfl (by rw [hz2];omega) (by unfold maxLen;omega) (by simp) ?_;intro w1 hown hgrow;have hbel1:Below (w.heap.size+1) (w.alloc (Obj.cells #[.slice none 0 0,.int .i64 0] 40)) w1:=(Below.refl _ _).grown hgrow (by simp) (by intro k hk;cases hk);have hblk:=made_blockO hown;simp only [World.size_alloc] at hblk;have hs1:w.heap.size+1<w1.heap.size:=(Array.getElem?_eq_some_iff.1 hblk).1;have HBLK:Hid (w1.heap[w.heap.size+1]?=some (.cells ((List.replicate M (0:Int)).map (Value.int .u8)).toArray 5 (0,0))):=hblk;clear hown hgrow hblk)
   | (have _t:=HBLK;refine wpList_copy_own rfl (.tmp 44) (.tmp 45) 22 22 rfl 5 Tryz.underlying22 hsz (w.heap.size+1) 0 M M ⟨ab,off,none⟩ (L+1) cap rfl rfl ((List.replicate M (0:Int)).map (Value.int .u8)).toArray 5 (by rw [Below.heap_alloc _ _ _ hs1];exact HBLK.out) ((zs.take M).map (Value.int .u8)) (by rw [List.length_map,HZL.out];exact (Nat.min_eq_right hML).symm) (HNEWS.out _ (fun i=>by exact ((hbel1.cell (p:=⟨ab,off+i,none⟩) (by simp;omega)).trans (Below.cell ((Below.refl w.heap.size w).alloc nl _) (p:=⟨ab,off+i,none⟩) hbl)).symm.trans (Below.cell ((Below.refl w1.heap.size w1).alloc nl _) (p:=⟨ab,off+i,none⟩) (by simp;omega)).symm)) (by rw [List.length_map,HZL.out];simp) (oneCells _) ?_;generalize hw2:World.setRow _ _ _=w2;obtain ⟨ho2,b0,b1,r0,r1,f0,f1,hbb2,hs2⟩:=copy_done hbel1 hs1 HBLK.out HZL.out (fun z hz=>hb.1 z (List.mem_of_mem_take hz)) (by omega) hw2;have HO2:Hid (Own w2 (w.heap.size+1) (w.heap.size+1) M (zs.take M)):=ho2;have HB2:Hid (Below w.heap.size w w2):=hbb2;have HW2:Hid (w2.heap.size=w1.heap.size+1):=hs2;clear hw2 HBLK _t ho2 hbb2 hs2))
  have hY:openY zs L b t=zs.take M:=by rw [openY,if_pos hb0,show M=L from by have h1:=HM.out;have h2:=HQ.out;omega]
  have hqq:((8*L+b:Nat):Int)=(q:Int):=by have:=HQ.out;omega
  refine bodyPost_ret (v:=.tuple #[.agg #[.slice (some ⟨w.heap.size+1,0,none⟩) M M,.int .i64 (q:Int)],.bool true]) (by simp [results,Tryz.results105,go_sem,r0,r1]) rfl ⟨some ⟨w.heap.size+1,0,none⟩,M,by rw [hY,HZL.out,hqq],?_,?_⟩
  ·rw [hY]
   have hlt2:=HO2.out.lt
   refine Mine.mono (B:=w.heap.size+1) (U:=w2.heap.size) ?_ (by omega) (by simp [World.setCell])
   repeat (first | exact HO2.out.mine | refine Mine.setC ?_ (by simp) _)
  ·repeat (first | exact HB2.out | refine Below.setCell ?_ (by simp) _)
 ·have hu:((q:Int) % 8 != 0)=true:=by rw [bne_iff_ne];have:=HQ.out;omega
  go_wp2_with (first
   | (at_make;refine wpList_make_full _ rfl _ _ 22 rfl (w.heap.size+1) 5 i0 (.int .u8 0) 1 Tryz.underlying22 hi hz0 hz1 .i64 .i64 _ _ M rfl rfl rfl rfl (by rw [hz2];omega) (by unfold maxLen;omega) (by simp) ?_;intro w1 hown hgrow;have hbel1:Below (w.heap.size+1) (w.alloc (Obj.cells #[.slice none 0 0,.int .i64 0] 40)) w1:=(Below.refl _ _).grown hgrow (by simp) (by intro k hk;cases hk);have hblk:=made_blockO hown;simp only [World.size_alloc] at hblk;have hs1:w.heap.size+1<w1.heap.size:=(Array.getElem?_eq_some_iff.1 hblk).1;have HBLK:Hid (w1.heap[w.heap.size+1]?=some (.cells ((List.replicate M (0:Int)).map (Value.int .u8)).toArray 5 (0,0))):=hblk;clear hown hgrow hblk)
   | (have _t:=HBLK;refine wpList_copy_own rfl (.tmp 44) (.tmp 45) 22 22 rfl 5 Tryz.underlying22 hsz (w.heap.size+1) 0 M M ⟨ab,off,none⟩ (L+1) cap rfl rfl ((List.replicate M (0:Int)).map (Value.int .u8)).toArray 5 (by rw [Below.heap_alloc _ _ _ hs1];exact HBLK.out) ((zs.take M).map (Value.int .u8)) (by rw [List.length_map,HZL.out];exact (Nat.min_eq_right hML).symm) (HNEWS.out _ (fun i=>by exact ((hbel1.cell (p:=⟨ab,off+i,none⟩) (by simp;omega)).trans (Below.cell ((Below.refl w.heap.size w).alloc nl _) (p:=⟨ab,off+i,none⟩) hbl)).symm.trans (Below.cell ((Below.refl w1.heap.size w1).alloc nl _) (p:=⟨ab,off+i,none⟩) (by simp;omega)).symm)) (by rw [List.length_map,HZL.out];simp) (oneCells _) ?_;generalize hw2:World.setRow _ _ _=w2;obtain ⟨ho2,b0,b1,r0,r1,f0,f1,hbb2,hs2⟩:=copy_done hbel1 hs1 HBLK.out HZL.out (fun z hz=>hb.1 z (List.mem_of_mem_take hz)) (by omega) hw2;have HO2:Hid (Own w2 (w.heap.size+1) (w.heap.size+1) M (zs.take M)):=ho2;have HB2:Hid (Below w.heap.size w w2):=hbb2;have HW2:Hid (w2.heap.size=w1.heap.size+1):=hs2;clear hw2 HBLK _t ho2 hbb2 hs2))
  have hML1:M=L+1:=by have h1:=HM.out;have h2:=HQ.out;omega
  have cg:=HO2.out.cell L (by rw [HZL.out];omega)
  rw [show (zs.take M).getD L 0=(t:Int) from by rw [show (zs.take M).getD L 0=zs.getD L 0 from by simp [hML1]];exact HT.out] at cg
  have fg:=HO2.out.frozen L
  have hLM:L<M:=by omega
  have HML1:Hid (M=L+1):=hML1
  clear hML1
  go_region
  go_wp2
  have hval:bits .andNot .u8 (t:Int) (2 ^ (q % 8) % 256)=((t-2 ^ b:Nat):Int):=by
   have hqb:q % 8=b:=by have:=HQ.out;omega
   have hp:2 ^ b≤2 ^ 7:=Nat.pow_le_pow_right (by omega) (by omega)
   have ht2:t<256:=Nat.lt_of_lt_of_le H2.out (Nat.pow_le_pow_right (n:=2) (by omega) (show b+1≤8 by omega))
   have e:((2:Int) ^ b % 256)=((2 ^ b:Nat):Int):=by
    have e1:((2:Int) ^ b)=((2 ^ b:Nat):Int):=by simp
    have hp':2 ^ b<256:=Nat.lt_of_le_of_lt hp (by decide)
    rw [e1]
    exact Int.emod_eq_of_lt (Int.natCast_nonneg _) (by exact_mod_cast hp')
   rw [hqb,e,u8_andNot_nat t (2 ^ b) ht2 (Nat.lt_of_le_of_lt hp (by decide)),andNot_all t ht2 b hb8 H1.out H2.out]
  rw [hval]
  have hY:openY zs L b t=(zs.take M).set L ((t-2 ^ b:Nat):Int):=by rw [openY,if_neg hb0,List.take_of_length_le (by rw [HL.out,HML1.out];exact Nat.le_refl _)]
  have hyl:(openY zs L b t).length=M:=by rw [hY,List.length_set];exact HZL.out
  have hqq:((8*L+b:Nat):Int)=(q:Int):=by have:=HQ.out;omega
  have ht2:t<256:=Nat.lt_of_lt_of_le H2.out (Nat.pow_le_pow_right (n:=2) (by omega) (show b+1≤8 by omega))
  have hrng:(0:Int)≤((t-2 ^ b:Nat):Int)∧((t-2 ^ b:Nat):Int)≤255:=by
   generalize 2 ^ b=pb
   omega
  have ho3:=HO2.out.store L ((t-2 ^ b:Nat):Int) hrng
  rw [←hY] at ho3
  have r0':=(World.cell?_setCell_other w2 ⟨w.heap.size+1,L,none⟩ ⟨w.heap.size,0,none⟩ (.int .u8 ((t-2 ^ b:Nat):Int)) (by simp)).trans r0
  have r1':=(World.cell?_setCell_other w2 ⟨w.heap.size+1,L,none⟩ ⟨w.heap.size,1,none⟩ (.int .u8 ((t-2 ^ b:Nat):Int)) (by simp)).trans r1
  have hbb3:Below w.heap.size w (w2.setCell ⟨w.heap.size+1,L,none⟩ (.int .u8 ((t-2 ^ b:Nat):Int))):=HB2.out.setCell (by simp) _
  generalize w2.setCell ⟨w.heap.size+1,L,none⟩ (.int .u8 ((t-2 ^ b:Nat):Int))=w3 at *
  refine bodyPost_ret (v:=.tuple #[.agg #[.slice (some ⟨w.heap.size+1,0,none⟩) M M,.int .i64 (q:Int)],.bool true]) (by simp [results,Tryz.results105,go_sem,r0',r1']) rfl ⟨some ⟨w.heap.size+1,0,none⟩,M,by rw [hyl,hqq],?_,?_⟩
  ·have hlt3:=ho3.lt
   refine Mine.mono (B:=w.heap.size+1) (U:=w3.heap.size) ?_ (by omega) (by simp [World.setCell])
   repeat (first | exact ho3.mine | refine Mine.setC ?_ (by simp) _)
  ·repeat (first | exact hbb3 | refine Below.drew ?_ | refine Below.setCell ?_ (by simp) _)
end Go.Proofs.YtfeokafkhnbdiaaGreatDoor
