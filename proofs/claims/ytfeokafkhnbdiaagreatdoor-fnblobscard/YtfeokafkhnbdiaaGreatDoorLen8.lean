/- Lemmas on the way. -/
import Derived.Test.YtfeokafkhnbdiaaGreatDoorEkA
import Derived.Test.YtfeokafkhnbdiaaGreatDoorLzL
import Derived.Test.YtfeokafkhnbdiaaGreatDoorSy2
import Derived.Test.YtfeokafkhnbdiaaGreatDoorEkL
import Derived.Test.YtfeokafkhnbdiaaGreatDoorHPut2
import Derived.Test.YtfeokafkhnbdiaaGreatDoorJoin1
import Derived.Test.YtfeokafkhnbdiaaGreatDoorFp6b
import Derived.BigQuiet
import Derived.Test.YtfeokafkhnbdiaaGreatDoorPut4
import Derived.Test.YtfeokafkhnbdiaaGreatDoorPut1
import Derived.Test.YtfeokafkhnbdiaaGreatDoorSeal1
import Derived.Deep.RegionWith
import Derived.Test.YtfeokafkhnbdiaaGreatDoorPcB
set_option maxRecDepth 20000
set_option maxHeartbeats 16000000
namespace Go.Proofs.YtfeokafkhnbdiaaGreatDoor
open Go.RowKit
set_option linter.unusedVariables false
set_option linter.unusedSimpArgs false
def st2 (w:World) (R:Nat) (v0 v1:Value) (o:Obj):World:=((w.setCell ⟨R,0,none⟩ v0).setCell ⟨R,1,none⟩ v1).alloc o
structure SealE (w w8:World) (R:Nat) (ja:Option Addr) (jc N V:Nat):Prop where
 c0:∀ v0 v1 o,(((w8.setCell ⟨R,0,none⟩ v0).setCell ⟨R,1,none⟩ v1).alloc o).cell? ⟨R,0,none⟩=some v0
 c1:∀ v0 v1 o,(((w8.setCell ⟨R,0,none⟩ v0).setCell ⟨R,1,none⟩ v1).alloc o).cell? ⟨R,1,none⟩=some v1
 sl:∀ v0 v1 o,Calls Tryz.prog 115 #[.agg #[.slice ja (enc N V).length jc,.int .i64 N]] (((w8.setCell ⟨R,0,none⟩ v0).setCell ⟨R,1,none⟩ v1).alloc o) fun e w'=>∃ a' cp,e=.returned (.slice a' (enc (N+1) (V+2 ^ N)).length cp)∧Byt w' a' (enc (N+1) (V+2 ^ N))∧Below (((w8.setCell ⟨R,0,none⟩ v0).setCell ⟨R,1,none⟩ v1).alloc o).heap.size (((w8.setCell ⟨R,0,none⟩ v0).setCell ⟨R,1,none⟩ v1).alloc o) w'
 bel:∀ v0 v1 o,Below w.heap.size w (((w8.setCell ⟨R,0,none⟩ v0).setCell ⟨R,1,none⟩ v1).alloc o)
def enK (ys:List Int):Nat→List Int
 | 0=>0 :: ys
 | k+1=>match pkO ((k+1:Nat):Int) ys with
  | some b=>if b.length<(enK ys k).length then b else enK ys k
  | none=>enK ys k
def enO (ys:List Int):Option (List Int):=if ys.length=64 then some (enK ys 3) else none
theorem enK_none {ys:List Int} {k:Nat} (h:pkO ((k+1:Nat):Int) ys=none):enK ys (k+1)=enK ys k:=by
 rw [enK,h]
theorem enK_some {ys:List Int} {k:Nat} {b:List Int} (h:pkO ((k+1:Nat):Int) ys=some b):enK ys (k+1)=if b.length<(enK ys k).length then b else enK ys k:=by
 rw [enK,h]
theorem enK_len {ys:List Int} (hn:ys.length=64):∀ k,(enK ys k).length≤65
 | 0=>by simp [enK];omega
 | k+1=>by
  have ih:=enK_len hn k
  cases h:pkO ((k+1:Nat):Int) ys with
  | none=>rw [enK_none h];exact ih
  | some b=>
   rw [enK_some h]
   split <;> omega
theorem pkO_len {ys:List Int} {x:Int} {b:List Int} (hr:∀ z ∈ ys,0≤z∧z≤255) (h:pkO x ys=some b):b.length≤601:=by
 unfold pkO at h
 split at h
 ·cases h
 ·rename_i hn
  have hn':ys.length=64:=by omega
  have hs:=syF_all hn' hr
  have h2:=sqB_len hs 2
  have h3:=sqB_len hs 3
  split at h
  ·simp only [Option.some.injEq] at h;subst h;simp;omega
  ·split at h
   ·split at h
    ·simp only [Option.some.injEq] at h;subst h;simp
    ·cases h
   ·split at h
    ·simp only [Option.some.injEq] at h;subst h;simp;omega
    ·split at h
     ·simp only [Option.some.injEq] at h;subst h;simp;omega
     ·cases h
theorem encode_abs (K:Nat→List Int) (O:Nat→Option (List Int)) (n:Nat) (a:Option Addr) (c:Nat) (w:World) (h0:O 0=some (K 0)) (hno:∀ k,O (k+1)=none→K (k+1)=K k) (hso:∀ k b,O (k+1)=some b→K (k+1)=if b.length<(K k).length then b else K k) (hKl:∀ k,(K k).length≤65) (hOl:∀ k b,O k=some b→b.length≤601)
  (hP:∀ (k:Nat) (W:World),Below w.heap.size w W→Calls Tryz.prog 27 #[.slice a n c,.int .i64 (k:Nat)] W fun e w'=>pkA W w' (O k) e) :
  Calls Tryz.prog 31 #[.slice a n c] w fun e w'=>pkA w w' (some (K 3)) e:=by
 have HP:Hid (∀ (k:Nat) (W:World),Below w.heap.size w W→Calls Tryz.prog 27 #[.slice a n c,.int .i64 (k:Nat)] W fun e w'=>pkA W w' (O k) e):=hP
 have HK:Hid ((∀ k,O (k+1)=none→K (k+1)=K k)∧(∀ k b,O (k+1)=some b→K (k+1)=if b.length<(K k).length then b else K k)∧(∀ k,(K k).length≤65)∧(∀ k b,O k=some b→b.length≤601)):=⟨hno,hso,hKl,hOl⟩
 have hP0:Calls Tryz.prog 27 #[.slice a n c,.int .i64 0] w fun e w'=>pkA w w' (O 0) e:=hP 0 w (Below.refl _ _)
 rw [h0] at hP0
 clear hP hno hso hKl hOl h0
 ·skip
  go_enter Tryz.func31,Tryz.ntmps31
  go_wp2_with fail
  refine hP0.mono ?_
  clear hP0
  rintro e w1 ⟨⟨a1,c1,rfl,hm1⟩,hb1⟩
  have H1:Hid (Mine w1 w.heap.size w1.heap.size a1 c1 (K 0)∧Below w.heap.size w w1):=⟨hm1,hb1⟩
  clear hm1 hb1
  simp only [Option.getD_some,Option.isSome_some]
  go_wp2
  go_loopw [4,6] (fun bv mv W=>∃ (k:Nat) (a':Option Addr) (c':Nat),k≤3∧mv=.int .i64 ((k+1:Nat):Int)∧bv=.slice a' (K k).length c'∧Mine W w.heap.size W.heap.size a' c' (K k)∧Below w.heap.size w W) (fun _ mv _=>4-(intOf mv).toNat)
  case atStart=>exact ⟨0,a1,c1,by omega,rfl,rfl,H1.out⟩
  case round=>
   clear H1
   obtain ⟨k,a',c',hk,rfl,rfl,hm,hbel⟩:=hrel
   have HR:Hid (Mine wr w.heap.size wr.heap.size a' c' (K k)∧Below w.heap.size w wr):=⟨hm,hbel⟩
   have hlen:=HK.out.2.2.1 k
   clear hm hbel
   by_cases hlt:k<3
   ·have hlt2:((k+1:Nat):Int)≤3:=by omega
    have hlt3:(k:Int)+1≤3:=by omega
    have hP:=HP.out (k+1) wr HR.out.2
    cases ho:O (k+1) with
    | none=>
     have HE:=HK.out.1 k ho
     rw [ho] at hP
     have HEQ:Hid (K (k+1)=K k∧True):=⟨HE,trivial⟩
     clear HE ho
     go_wp2_with fail
     refine hP.mono ?_
     clear hP
     rintro e w2 ⟨⟨a2,c2,rfl,-⟩,hb2⟩
     have HR2:Hid (Mine w2 w.heap.size w2.heap.size a' c' (K (k+1))∧Below w.heap.size w w2∧(K (k+1)).length=(K k).length):=by
      unfold Hid
      rw [HEQ.out.1]
      exact ⟨(HR.out.1.below hb2).mono nl hb2.size,HR.out.2.trans (hb2.mono HR.out.2.size),rfl⟩
     clear hb2 HR
     simp only [Option.getD_none,Option.isSome_none,List.length_nil]
     go_wp2
     go_roundw
     case rel=>exact ⟨k+1,a',c',by omega,by go_num,by rw [HR2.out.2.2],HR2.out.1,HR2.out.2.1⟩
     case measure=>simp [intOf];omega
    | some b=>
     have HE:=HK.out.2.1 k _ ho
     have hbl:=HK.out.2.2.2 _ _ ho
     rw [ho] at hP
     by_cases hlb:b.length<(K k).length
     ·rw [if_pos hlb] at HE
      have HEQ:Hid (K (k+1)=b∧True):=⟨HE,trivial⟩
      have hd:(b.length:Int)<((K k).length:Int):=by omega
      clear HE ho
      go_wp2_with fail
      refine hP.mono ?_
      clear hP
      rintro e w2 ⟨⟨a2,c2,rfl,hm2⟩,hb2⟩
      have HR2:Hid (Mine w2 w.heap.size w2.heap.size a2 c2 (K (k+1))∧Below w.heap.size w w2∧(K (k+1)).length=b.length):=by
       unfold Hid
       rw [HEQ.out.1]
       exact ⟨hm2.mono HR.out.2.size nl,HR.out.2.trans (hb2.mono HR.out.2.size),rfl⟩
      clear hb2 HR hm2
      simp only [Option.getD_some,Option.isSome_some]
      go_wp2
      go_roundw
      case rel=>exact ⟨k+1,a2,c2,by omega,by go_num,by rw [HR2.out.2.2],HR2.out.1,HR2.out.2.1⟩
      case measure=>simp [intOf];omega
     ·rw [if_neg hlb] at HE
      have HEQ:Hid (K (k+1)=K k∧True):=⟨HE,trivial⟩
      have hd:¬(b.length:Int)<((K k).length:Int):=by omega
      clear HE ho
      go_wp2_with fail
      refine hP.mono ?_
      clear hP
      rintro e w2 ⟨⟨a2,c2,rfl,-⟩,hb2⟩
      have HR2:Hid (Mine w2 w.heap.size w2.heap.size a' c' (K (k+1))∧Below w.heap.size w w2∧(K (k+1)).length=(K k).length):=by
       unfold Hid
       rw [HEQ.out.1]
       exact ⟨(HR.out.1.below hb2).mono nl hb2.size,HR.out.2.trans (hb2.mono HR.out.2.size),rfl⟩
      clear hb2 HR
      simp only [Option.getD_some,Option.isSome_some]
      go_wp2
      go_roundw
      case rel=>exact ⟨k+1,a',c',by omega,by go_num,by rw [HR2.out.2.2],HR2.out.1,HR2.out.2.1⟩
      case measure=>simp [intOf];omega
   ·have hk3:k=3:=by omega
    subst hk3
    go_wp2
    go_ret2
    exact ⟨⟨a',c',rfl,HR.out.1⟩,HR.out.2⟩
theorem implEncode_any (a:Option Addr) (c:Nat) (ys:List Int) (w:World) (hb:Byt w a ys) (hcap:ys.length≤c) (hs:SentE w) :
  Calls Tryz.prog 31 #[.slice a ys.length c] w fun e w'=>pkA w w' (enO ys) e:=by
 by_cases hn:ys.length=64
 ·have h:=encode_abs (enK ys) (fun k=>pkO (k:Nat) ys) ys.length a c w (by show pkO 0 ys=_;unfold pkO;rw [if_neg (by simpa using hn),if_pos rfl];rfl) (fun k h=>enK_none h) (fun k b h=>enK_some h) (fun k=>enK_len hn k) (fun k b h=>pkO_len hb.1 h) (fun k W hW=>implPacked_any a c ys k W (hb.below hW nl) hcap (hs.below hW))
  unfold enO
  rw [if_pos hn]
  exact h
 ·have hP0:=implPacked_any a c ys 0 w hb hcap hs
  have HL:Hid (enO ys=none):=by unfold Hid enO;rw [if_neg hn]
  have h00:pkO 0 ys=none:=by unfold pkO;rw [if_pos hn]
  rw [h00] at hP0
  rw [HL.out]
  clear h00 hb hs
  go_enter Tryz.func31,Tryz.ntmps31
  go_wp2_with fail
  refine hP0.mono ?_
  clear hP0
  rintro e w1 ⟨⟨a1,c1,rfl,hm1⟩,hb1⟩
  have HF:Hid (Below w.heap.size w w1):=hb1
  clear hm1 hb1
  simp only [Option.getD_none,Option.isSome_none,List.length_nil]
  go_wp2
  go_ret2
  exact pkA.no HF.out
theorem sqB_pos (mode:Nat) (ys:List Int):1≤(sqB mode ys).length:=by
 unfold sqB
 rw [enc_len]
 omega
theorem enK_alike {ys:List Int} (hn:ys.length=64) (h:alikeB ys=true):enK ys 3=[1,ys.getD 0 0]:=by
 have h1:enK ys 1=[1,ys.getD 0 0]:=by
  have e:pkO ((0+1:Nat):Int) ys=some [1,ys.getD 0 0]:=by
   unfold pkO
   rw [if_neg (by simpa using hn),if_neg (by decide),if_pos (by rfl),if_pos h]
  rw [enK_some e,if_pos]
  show 2<(0 :: ys).length
  simp only [List.length_cons]
  omega
 have h2:enK ys 2=[1,ys.getD 0 0]:=by
  have e:pkO ((1+1:Nat):Int) ys=some (2 :: sqB 2 ys):=by
   unfold pkO
   rw [if_neg (by simpa using hn),if_neg (by decide),if_neg (by decide),if_pos (by rfl)]
  rw [enK_some e,h1,if_neg]
  have:=sqB_pos 2 ys
  simp only [List.length_cons,List.length_nil]
  omega
 have e:pkO ((2+1:Nat):Int) ys=some (3 :: sqB 3 ys):=by
  unfold pkO
  rw [if_neg (by simpa using hn),if_neg (by decide),if_neg (by decide),if_neg (by decide),if_pos (by rfl)]
 rw [enK_some e,h2,if_neg]
 have:=sqB_pos 3 ys
 simp only [List.length_cons,List.length_nil]
 omega
theorem enO_alike {ys:List Int} (hn:ys.length=64) (h:alikeB ys=true):enO ys=some [1,ys.getD 0 0]:=by
 unfold enO
 rw [if_pos hn,enK_alike hn h]
theorem enO_noughts :enO (List.replicate 64 0)=some [1,0]:=enO_alike (by simp) (by simp [alikeB])
def openY (zs:List Int) (L b:Nat) (t:Nat):List Int:=if b=0 then zs.take L else zs.set L ((t-2 ^ b:Nat):Int)
theorem keepF {B:Nat} {w w':World} (h:Below B w w') {b o:Nat} (hb:b<B) (hf:w.frozen? ⟨b,o,none⟩=false):w'.frozen? ⟨b,o,none⟩=false:=(h.frozen (p:=⟨b,o,none⟩) hb).trans hf
theorem keepAF {w:World} (ob:Obj) {b o:Nat} (hb:b<w.heap.size) (hf:w.frozen? ⟨b,o,none⟩=false):(w.alloc ob).frozen? ⟨b,o,none⟩=false:=keepF ((Below.refl w.heap.size w).alloc nl ob) hb hf
theorem Mine.setC {w:World} {B U:Nat} {a:Option Addr} {cap:Nat} {zs:List Int} (h:Mine w B U a cap zs) {p:Addr} (hp:p.block<B) (u:Value):Mine (w.setCell p u) B U a cap zs:=
 h.only (Only.setCell (Only.refl (fun b=>b=p.block) w) (.inl rfl) u) (fun b h1 _=>by omega)
theorem openY_len (zs:List Int) (L b t:Nat) (hL:zs.length=L+1):(openY zs L b t).length=(8*L+b+7) / 8∨8≤b:=by
 by_cases hb:b=0
 ·left
  rw [openY,if_pos hb,List.length_take,hL,hb]
  omega
 ·by_cases h8:b<8
  ·left
   rw [openY,if_neg hb,List.length_set,hL]
   omega
  ·right;omega
theorem okB_open (zs:List Int) (L b t:Nat) (hL:zs.length=L+1) (h1:2 ^ b≤t) (h2:t<2 ^ (b+1)) (hb:b<8) :
  okB ((8*L+b:Nat):Int) (openY zs L b t)=decide (8*L+b≤4096):=by
 have hlen:(openY zs L b t).length=(8*L+b+7) / 8:=(openY_len zs L b t hL).resolve_right (by omega)
 by_cases hn:8*L+b≤4096
 ·rw [decide_eq_true hn]
  by_cases hb0:b=0
  ·subst hb0
   exact okB_full (by omega) (by omega) (by rw [hlen];omega) (by omega)
  ·rw [okB_last (by omega) (by omega) (by rw [hlen];omega) (by omega),hlen]
   rw [show (8*L+b+7) / 8-1=L from by omega,show (((8*L+b:Nat):Int) % 8).toNat=b from by omega]
   have hg:(openY zs L b t).getD L 0=((t-2 ^ b:Nat):Int):=by
    rw [openY,if_neg hb0]
    simp [hL]
   rw [hg]
   have hz:(t-2 ^ b) / 2 ^ b=0:=by
    rw [Nat.pow_succ] at h2
    exact Nat.div_eq_of_lt (by omega)
   have e:(((t-2 ^ b:Nat):Int) / 2 ^ b)=(((t-2 ^ b) / 2 ^ b:Nat):Int):=by
    have:((2:Int) ^ b)=((2 ^ b:Nat):Int):=by simp
    rw [this];rfl
   rw [e,hz]
   rfl
 ·rw [decide_eq_false hn]
  exact okB_big (by omega)
set_option maxRecDepth 100000 in
theorem len8_any (t b:Nat) (w:World) (h1:2 ^ b≤t) (h2:t<2 ^ (b+1)) (hb:b<8) :
  Calls Tryz.prog 134 #[.int .u8 (t:Int)] w fun e w'=>e=.returned (.int .i64 ((b:Int)+1))∧w'=w:=by
 have h256:t<256:=Nat.lt_of_lt_of_le h2 (Nat.pow_le_pow_right (n:=2) (by omega) (show b+1≤8 by omega))
 have hi:(t:Int)<256:=by omega
 have H1:Hid (2 ^ b≤t):=h1
 have H2:Hid (t<2 ^ (b+1)):=h2
 clear h1 h2
 go_enter Tryz.func134,Tryz.ntmps134
 go_wp2
 go_ret
 refine ⟨ret_int ?_,rfl⟩
 have e:∀ (S:ByteArray) (h:t<S.size),S[t]=S.data.toList.getD t 0:=by
  intro S h
  have h':t<S.data.toList.length:=by simpa using h
  rw [List.getD_eq_getElem?_getD,List.getElem?_eq_getElem h']
  rfl
 rw [e]
 have h1:=H1.out
 have h2:=H2.out
 clear e hi H1 H2
 revert h2 h1
 revert b
 intro b hb
 revert b
 revert h256
 revert t
 decide +kernel
end Go.Proofs.YtfeokafkhnbdiaaGreatDoor
