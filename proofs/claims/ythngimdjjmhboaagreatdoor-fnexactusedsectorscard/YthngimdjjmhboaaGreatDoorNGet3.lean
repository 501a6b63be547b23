/-
  The model's l3getNorm.
-/
import Derived.Test.YthngimdjjmhboaaGreatDoorPour
import Derived.Test.YthngimdjjmhboaaGreatDoorLGet1
import Derived.Test.YthngimdjjmhboaaGreatDoorTakeI
import Derived.Test.YthngimdjjmhboaaGreatDoorBox2
import Derived.Test.YthngimdjjmhboaaGreatDoorOpen1
import Derived.Test.YthngimdjjmhboaaGreatDoorLGet2
import Derived.Test.YthngimdjjmhboaaGreatDoorSyms
import Derived.Deep.RegionHeld3
import Derived.Test.YthngimdjjmhboaaGreatDoorGsI
import Derived.Test.YthngimdjjmhboaaGreatDoorUs1
namespace Go.Proofs.YthngimdjjmhboaaGreatDoor
open Go.RowKit
set_option linter.unusedVariables false

theorem OwnV.blk {w:World} {B:Nat} {v:Value} {zs:List Int} (h:OwnV w B v zs) {k:Nat} (hk:v.ownBlock=some k):B≤k:=by
 rcases h.1.2 with ⟨rfl,h0⟩ | ⟨g,cap,cur,rfl,hg,_⟩
 ·simp [Value.ownBlock] at hk
 ·simp [Value.ownBlock] at hk
  omega

def WI (w:World) (B R n V:Nat):Prop:=∃ v,w.heap[R]?=some (.cells #[v,.int .i64 n,.int .i64 4096] 309 (0,0))∧OwnV w B v (enc n V)∧V<2 ^ n∧B≤R∧B≤w.heap.size
def SI (w:World) (B R n V:Nat):Prop:=∃ v,w.heap[R]?=some (.cells #[v,.int .i64 n] 155 (0,0))∧OwnV w B v (enc n V)∧V<2 ^ n∧B≤R∧B≤w.heap.size

theorem WI.put {w:World} {B R n V:Nat} (h:WI w B R n V) (x width:Int) (hx:0≤x) (h1:0≤width) (h2:width≤30) (hxw:x<2 ^ width.toNat) (h3:width≤4096 - n) (hn:n≤4096) :
  Calls Tryz.prog 243 #[.pointer (some ⟨R,0,none⟩),.int .i64 x,.int .i64 width] w fun e w'=>e=.returned .nilIface∧WI w' B R (n+width.toNat) (V+x.toNat * 2 ^ n)∧Below B w w':=by
 obtain ⟨v,hR,hv,hV,hBR,hB⟩:=h
 refine (wput_yes R B v n V x width 4096 w hR hv hV hB hx h1 h2 hxw h3 (by omega) (by omega)).mono ?_
 rintro e w' ⟨rfl,v',hR',hv',ho,_⟩
 have hb:Below B w w':=ho.below hB (fun k hk=>by
  rcases hk with hk | hk
  ·omega
  ·exact hv.blk hk)
 refine ⟨rfl,⟨v',hR',hv',?_,hBR,Nat.le_trans hB hb.size⟩,hb⟩
 refine put_lt n V width.toNat x.toNat hV ?_
 have e:((2:Int) ^ width.toNat)=((2 ^ width.toNat:Nat):Int):=by simp
 rw [e] at hxw
 omega

theorem SI.put {w:World} {B R n V:Nat} (h:SI w B R n V) (x width:Int) (hx:0≤x) (h1:0≤width) (h2:width≤30) (hxw:x<2 ^ width.toNat) (hn:n≤4096) :
  Calls Tryz.prog 181 #[.pointer (some ⟨R,0,none⟩),.int .i64 x,.int .i64 width] w fun e w'=>e=.returned (.tuple #[])∧SI w' B R (n+width.toNat) (V+x.toNat * 2 ^ n)∧Below B w w':=by
 obtain ⟨v,hR,hv,hV,hBR,hB⟩:=h
 have e:((2:Int) ^ width.toNat)=((2 ^ width.toNat:Nat):Int):=by simp
 rw [e] at hxw
 have hp:2 ^ width.toNat≤2 ^ 30:=Nat.pow_le_pow_right (by omega) (by omega)
 refine (l1put_any R B v n V x width w hR hv hV hB hx (by omega) h1 h2 (by omega)).mono ?_
 rintro e w' ⟨rfl,v',hR',hv',ho,_⟩
 rw [Nat.mod_eq_of_lt (by omega)] at hv'
 have hb:Below B w w':=ho.below hB (fun k hk=>by
  rcases hk with hk | hk
  ·omega
  ·exact hv.blk hk)
 exact ⟨rfl,⟨v',hR',hv',put_lt n V width.toNat x.toNat hV (by omega),hBR,Nat.le_trans hB hb.size⟩,hb⟩

theorem WI.drewN {w:World} {B R n V:Nat} (h:WI w B R n V) (m:Nat):WI (w.drewN m) B R n V:=h
theorem SI.drewN {w:World} {B R n V:Nat} (h:SI w B R n V) (m:Nat):SI (w.drewN m) B R n V:=h
theorem enc_zero :enc 0 0=[]:=by
 have:=enc_len 0 0
 exact List.eq_nil_of_length_eq_zero (by simpa using this)
theorem SI.new (w:World) (B:Nat) (hB:B≤w.heap.size):SI (w.alloc (.cells #[.slice none 0 0,.int .i64 0] 155)) B w.heap.size 0 0:=by
 refine ⟨.slice none 0 0,by simpa using heap_alloc_new w (.cells #[.slice none 0 0,.int .i64 0] 155),?_,by simp,hB,by simp;omega⟩
 rw [enc_zero]
 exact ⟨⟨rfl,.inl ⟨rfl,rfl⟩⟩,by simp⟩
theorem WI.new {w:World} {B R g:Nat} (hR:w.heap[R]?=some (.cells #[.slice (some ⟨g,0,none⟩) ([]:List Int).length ([]:List Int).length,.int .i64 0,.int .i64 4096] 309 (0,0))) (ho:Own w B g ([]:List Int).length []) (hBR:B≤R) (hB:B≤w.heap.size):WI w B R 0 0:=by
 refine ⟨_,by simpa using hR,?_,by simp,hBR,hB⟩
 rw [enc_zero]
 exact ho.v
set_option maxHeartbeats 1600000 in
theorem l2putLens_any (a:Option Addr) (cap:Nat) (zs:List Int) (R B:Nat) (w0 w:World) (hb:Ins w0 a zs) (hB:w0.heap.size=B) (hbel:Below B w0 w) (hw:SI w B R 0 0) (hn:zs.length≤80) (hok:∀ z ∈ zs,0≤z∧z≤12) :
  Calls Tryz.prog 178 #[.pointer (some ⟨R,0,none⟩),.slice a zs.length cap] w fun e w'=>e=.returned (.tuple #[])∧SI w' B R (lpF zs).1 (lpF zs).2∧Below B w0 w':=by
 have HOK:Hid (∀ k,k<zs.length→0≤zs.getD k 0∧zs.getD k 0≤12):=fun k hk=>hok _ (getD_mem hk)
 have HRL:Hid _:=fun i hi=>run_le zs i hi
 have HRI:Hid _:=run_in zs
 have HRO:Hid _:=run_out zs
 have HLE:Hid _:=lp_end zs
 have HLZ:Hid _:=lp_zero zs
 have HLP:Hid _:=lp_pos zs
 have HW:Hid (SI w B R 0 0):=hw
 have HF:Hid (lp zs zs.length 0 0 0=lpF zs):=rfl
 clear hok hw
 generalize hlen:zs.length=n at *
 have HL:Hid (zs.length=n):=hlen
 clear hlen
 go_enter Tryz.func178,Tryz.ntmps178
 go_wp2
 go_loopw [4] (fun i wr=>∃ k N V f:Nat,k≤n∧i=.int .i64 k∧N≤7 * k∧n - k≤f∧lp zs f k N V=lpF zs∧SI wr B R N V∧Below B w0 wr) (fun i _=>n - (intOf i).toNat)
 case atStart=>exact ⟨0,0,0,n,Nat.zero_le _,rfl,by omega,by omega,HF.out,HW.out,hbel⟩
 case round=>
  clear HW hbel HF
  obtain ⟨k,N,V,f,hk,rfl,hN,hf,hlp,hwi,hbel⟩:=hrel
  have HWI:Hid (SI wr B R N V):=hwi
  have HP:Hid (lp zs f k N V=lpF zs):=hlp
  clear hwi hlp
  by_cases hlt:k<n
  ·obtain ⟨b1,o1,rfl,hb1,hc1⟩:=(hb.below hbel (by omega)).len_pos k (by rw [HL.out];exact hlt)
   have hs1:=hc1 k (by rw [HL.out];exact hlt)
   have hx:=HOK.out k hlt
   have hr:=HRL.out k hlt
   obtain ⟨f,rfl⟩:∃ f',f=f'+1:=⟨f - 1,by omega⟩
   have HZ:=HLZ.out f k N V hlt
   have HQ:=HLP.out f k N V hlt
   rw [HP.out] at HZ HQ
   have HZ':Hid _:=HZ
   have HQ':Hid _:=HQ
   clear hc1 HZ HQ HP
   generalize hxx:zs.getD k 0=x at *
   go_wp2_with fail
   refine (HWI.out.put x 4 hx.1 (by omega) (by omega) (by simp;omega) (by omega)).mono ?_
   rintro e w2 ⟨rfl,hwi2,hb2⟩
   have HWI2:Hid (SI w2 B R (N+4) (V+x.toNat * 2 ^ N)):=hwi2
   have hbel2:Below B w0 w2:=hbel.trans hb2
   obtain ⟨b3,o3,he3,hb3,hc3⟩:=(hb.below hbel2 (by omega)).len_pos k (by rw [HL.out];exact hlt)
   obtain ⟨rfl,rfl⟩:b1=b3∧o1=o3:=by simpa using he3
   have hs3:=hc3 k (by rw [HL.out];exact hlt)
   have HC3:Hid _:=hc3
   rw [hxx] at hs3
   clear hwi2 hb2 hbel HWI hc3 he3 hs1
   by_cases hz:x=0
   ·have E:=HZ'.out hz
    have HE:Hid (lp zs f (k+1+run zs k) (N+7) (V+run zs k * 2 ^ (N+4))=lpF zs):=E.symm
    have HRI':Hid _:=HRI.out k
    have HRO':Hid _:=HRO.out k hlt
    clear HZ' HQ' E
    subst hz
    have HWI3:Hid (SI w2 B R (N+4) V):=by simpa [Hid] using HWI2.out
    clear HWI2
    generalize run zs k=r at *
    go_wp2
    go_loopw [4,5] (fun i c wi=>∃ j q:Nat,j≤r∧q=k+j∧c=.int .i64 j∧i=.int .i64 q∧wi=w2) (fun _ c _=>r - (intOf c).toNat)
    case atStart=>exact ⟨0,k,Nat.zero_le _,by omega,rfl,rfl,rfl⟩
    case round=>
     obtain ⟨j,q,hj,hq,rfl,rfl,rfl⟩:=hrel
     have HQJ:Hid (q=k+j):=hq
     clear hq
     by_cases hjr:j<r
     ·obtain ⟨g1,g2,g3⟩:=HRI'.out j hjr
      rw [←HQJ.out] at g2 g3
      have hs4:=HC3.out (q+1) (by rw [HL.out];exact g2)
      rw [g3] at hs4
      clear g3
      go_wp2
      go_roundw
      case rel=>exact ⟨j+1,q+1,by omega,by have:=HQJ.out;omega,by go_num,by go_num,by simp⟩
      case measure=>simp [intOf];omega
     ·have hje:j=r:=by omega
      subst hje
      rw [←HQJ.out] at HRO'
      have hqn:q+1≤n:=by have:=HQJ.out;omega
      by_cases h7:j<7
      ·by_cases hl1:q+1<n
       ·have hne:=HRO'.out h7 hl1
        have hs4:=HC3.out (q+1) (by rw [HL.out];exact hl1)
        generalize zs.getD (q+1) 0=y at *
        have hy:(y == 0)=false:=by simpa using hne
        clear hne
        go_wp2_with fail
        refine (HWI3.out.put (j:Nat) 3 (by omega) (by omega) (by omega) (by simp;omega) (by omega)).mono ?_
        rintro e w4 ⟨rfl,hwi4,hb4⟩
        have HWI4:Hid (SI w4 B R (N+7) (V+j * 2 ^ (N+4))):=by simpa [Hid] using hwi4
        have HB4:Hid (Below B w0 w4):=hbel2.trans hb4
        clear hwi4 hb4 HWI3
        go_wp2
        go_roundw
        case rel=>exact ⟨k+1+j,N+7,V+j * 2 ^ (N+4),f,by have:=HQJ.out;omega,by have:=HQJ.out;go_num,by omega,by omega,HE.out,HWI4.out,HB4.out⟩
        case measure=>have:=HQJ.out;simp [intOf];omega
       ·have hl2:decide ((q:Int)+1<(n:Int))=false:=by simp;omega
        go_wp2_with fail
        refine (HWI3.out.put (j:Nat) 3 (by omega) (by omega) (by omega) (by simp;omega) (by omega)).mono ?_
        rintro e w4 ⟨rfl,hwi4,hb4⟩
        have HWI4:Hid (SI w4 B R (N+7) (V+j * 2 ^ (N+4))):=by simpa [Hid] using hwi4
        have HB4:Hid (Below B w0 w4):=hbel2.trans hb4
        clear hwi4 hb4 HWI3
        go_wp2
        go_roundw
        case rel=>exact ⟨k+1+j,N+7,V+j * 2 ^ (N+4),f,by have:=HQJ.out;omega,by have:=HQJ.out;go_num,by omega,by omega,HE.out,HWI4.out,HB4.out⟩
        case measure=>have:=HQJ.out;simp [intOf];omega
      ·go_wp2_with fail
       refine (HWI3.out.put (j:Nat) 3 (by omega) (by omega) (by omega) (by simp;omega) (by omega)).mono ?_
       rintro e w4 ⟨rfl,hwi4,hb4⟩
       have HWI4:Hid (SI w4 B R (N+7) (V+j * 2 ^ (N+4))):=by simpa [Hid] using hwi4
       have HB4:Hid (Below B w0 w4):=hbel2.trans hb4
       clear hwi4 hb4 HWI3
       go_wp2
       go_roundw
       case rel=>exact ⟨k+1+j,N+7,V+j * 2 ^ (N+4),f,by have:=HQJ.out;omega,by have:=HQJ.out;go_num,by omega,by omega,HE.out,HWI4.out,HB4.out⟩
       case measure=>have:=HQJ.out;simp [intOf];omega
   ·have E:=HQ'.out hz
    have HE:Hid (lp zs f (k+1) (N+4) (V+x.toNat * 2 ^ N)=lpF zs):=E.symm
    have hpos:0<x:=by omega
    have HB2:Hid (Below B w0 w2):=hbel2
    clear HZ' HQ' E hbel2
    go_wp2
    go_roundw
    case rel=>exact ⟨k+1,N+4,V+x.toNat * 2 ^ N,f,by omega,by go_num,by omega,by omega,HE.out,HWI2.out,HB2.out⟩
    case measure=>simp [intOf];omega
  ·have hkn:k=n:=by omega
   subst hkn
   have E:=HLE.out f k N V (by omega)
   rw [HP.out] at E
   have HA:Hid (SI wr B R (lpF zs).1 (lpF zs).2):=by rw [E];exact HWI.out
   clear E HWI HP
   go_wp2
   go_end0
   exact ⟨rfl,HA.out,hbel⟩
theorem WI.cells {w:World} {B R n V:Nat} (h:WI w B R n V):∃ a' cp,w.cell? ⟨R,0,none⟩=some (.slice a' (enc n V).length cp)∧w.cell? ⟨R,1,none⟩=some (.int .i64 n)∧Mine w B w.heap.size a' cp (enc n V):=by
 obtain ⟨v,hR,hv,_⟩:=h
 obtain ⟨a',cp,rfl,hm⟩:=hv.mine
 exact ⟨a',cp,cellR (j:=0) hR rfl,cellR (j:=1) hR rfl,hm⟩
theorem SI.cells {w:World} {B R n V:Nat} (h:SI w B R n V):∃ a' cp,w.cell? ⟨R,0,none⟩=some (.slice a' (enc n V).length cp)∧w.cell? ⟨R,1,none⟩=some (.int .i64 n)∧Mine w B w.heap.size a' cp (enc n V):=by
 obtain ⟨v,hR,hv,_⟩:=h
 obtain ⟨a',cp,rfl,hm⟩:=hv.mine
 exact ⟨a',cp,cellR (j:=0) hR rfl,cellR (j:=1) hR rfl,hm⟩

theorem OwnV.stayP {w w':World} {B:Nat} {v:Value} {zs:List Int} (h:OwnV w B v zs) (hb:Below w.heap.size w w'):OwnV w' B v zs:=by
 rcases h.1.2 with ⟨h1,h2⟩ | ⟨g,cap,cur,rfl,hg,hh,r⟩
 ·exact ⟨⟨h.1.1,.inl ⟨h1,h2⟩⟩,h.2⟩
 ·exact ⟨⟨h.1.1,.inr ⟨g,cap,cur,rfl,hg,(hb.block g (Array.getElem?_eq_some_iff.1 hh).1).trans hh,r⟩⟩,h.2⟩
theorem WI.stay {w w':World} {B R n V:Nat} (h:WI w B R n V) (hb:Below w.heap.size w w'):WI w' B R n V:=by
 obtain ⟨v,h1,h2,h3,h4,h5⟩:=h
 exact ⟨v,(hb.block R (Array.getElem?_eq_some_iff.1 h1).1).trans h1,h2.stayP hb,h3,h4,Nat.le_trans h5 hb.size⟩
theorem SI.stay {w w':World} {B R n V:Nat} (h:SI w B R n V) (hb:Below w.heap.size w w'):SI w' B R n V:=by
 obtain ⟨v,h1,h2,h3,h4,h5⟩:=h
 exact ⟨v,(hb.block R (Array.getElem?_eq_some_iff.1 h1).1).trans h1,h2.stayP hb,h3,h4,Nat.le_trans h5 hb.size⟩
set_option linter.unusedSimpArgs false
theorem bit_eq_all (U V p M:Nat) (hU:U<2 ^ M) (h:∀ i,i<M→U / 2 ^ i % 2=V / 2 ^ (p+i) % 2):U=bt V p M:=by
 apply Nat.eq_of_testBit_eq
 intro i
 unfold bt
 rw [Nat.testBit_mod_two_pow]
 by_cases hi:i<M
 ·have h1:=h i hi
  rw [decide_eq_true hi,Bool.true_and,Nat.testBit_eq_decide_div_mod_eq,Nat.testBit_eq_decide_div_mod_eq,Nat.div_div_eq_div_mul,←Nat.pow_add,h1]
 ·rw [decide_eq_false hi,Bool.false_and]
  exact Nat.testBit_lt_two_pow (Nat.lt_of_lt_of_le hU (Nat.pow_le_pow_right (by omega) (by omega)))
theorem bit_of_bt (V p M i:Nat) (hi:i<M):bt V p M / 2 ^ i % 2=V / 2 ^ (p+i) % 2:=by
 have h:(bt V p M).testBit i=(V / 2 ^ p).testBit i:=by unfold bt;rw [Nat.testBit_mod_two_pow,decide_eq_true hi,Bool.true_and]
 rw [Nat.testBit_eq_decide_div_mod_eq,Nat.testBit_eq_decide_div_mod_eq,Nat.div_div_eq_div_mul,←Nat.pow_add] at h
 have h1:bt V p M / 2 ^ i % 2<2:=Nat.mod_lt _ (by omega)
 have h2:V / 2 ^ (p+i) % 2<2:=Nat.mod_lt _ (by omega)
 by_cases c:bt V p M / 2 ^ i % 2=1
 ·by_cases d:V / 2 ^ (p+i) % 2=1
  ·omega
  ·simp [c,d] at h
 ·by_cases d:V / 2 ^ (p+i) % 2=1
  ·simp [c,d] at h
  ·omega
def lgR (w w':World) (n V p s:Nat) (e:Ending):Prop:=Below w.heap.size w w' ∧
   (∀ res q,giY n V p s res q→∃ a' cp,e=.returned (.tuple #[.slice a' res.length cp,.int .i64 (q:Nat),.bool true])∧MinI w' w.heap.size w'.heap.size a' cp res) ∧
   ((¬∃ res q,giY n V p s res q)→e=.returned (.tuple #[.slice none 0 0,.int .i64 (-1),.bool false]))
theorem lgR.no {w w':World} {n V p s:Nat} (hb:Below w.heap.size w w') (h:¬∃ res q,giY n V p s res q):lgR w w' n V p s (.returned (.tuple #[.slice none 0 0,.int .i64 (-1),.bool false])):=
 And.intro hb (And.intro (fun res q hy=>absurd ⟨res,q,hy⟩ h) (fun _=>rfl))
theorem lgR.yes {w w':World} {n V p s q:Nat} {res:List Int} {a':Option Addr} {cp:Nat} (hb:Below w.heap.size w w') (h:giY n V p s res q) (hm:MinI w' w.heap.size w'.heap.size a' cp res):lgR w w' n V p s (.returned (.tuple #[.slice a' res.length cp,.int .i64 (q:Nat),.bool true])):=by
 refine And.intro hb (And.intro (fun res' q' hy=>?_) (fun hno=>absurd ⟨res,q,h⟩ hno))
 obtain ⟨rfl,rfl⟩:res=res'∧q=q':=by have:=hy.1;rw [h.1] at this;simpa using this
 exact ⟨_,_,rfl,hm⟩
theorem giY_iff {n V p s q:Nat} {res:List Int}:giY n V p s res q↔gqY n V p s res q∧lpF res=(q - p,bt V p (q - p)):=by
 unfold giY gqY
 rw [gi_iff]
 constructor
 ·rintro ⟨⟨h1,h2,h3⟩,h4⟩
  exact ⟨⟨h1,h2,h4⟩,h3⟩
 ·rintro ⟨⟨h1,h2,h4⟩,h3⟩
  exact ⟨⟨h1,h2,h3⟩,h4⟩
def Bx2 (W:World) (X Y:Nat) (a ya:Option Addr) (la ca ly cy n M:Nat):Prop:=W.cell? ⟨X,0,none⟩=some (.slice a la ca)∧W.cell? ⟨X,1,none⟩=some (.int .i64 (n:Nat))∧W.cell? ⟨Y,0,none⟩=some (.slice ya ly cy)∧W.cell? ⟨Y,1,none⟩=some (.int .i64 (M:Nat))
theorem Bx2.below {W W':World} {X Y:Nat} {a ya:Option Addr} {la ca ly cy n M:Nat} (h:Bx2 W X Y a ya la ca ly cy n M) (hb:Below W.heap.size W W'):Bx2 W' X Y a ya la ca ly cy n M:=
 ⟨keep hb (World.block_lt_of_cell? _ _ h.1) h.1,keep hb (World.block_lt_of_cell? _ _ h.2.1) h.2.1,keep hb (World.block_lt_of_cell? _ _ h.2.2.1) h.2.2.1,keep hb (World.block_lt_of_cell? _ _ h.2.2.2) h.2.2.2⟩

set_option maxRecDepth 20000 in
set_option maxHeartbeats 3200000 in
theorem specLensGet_ok (a:Option Addr) (cap:Nat) (zs:List Int) (n p s:Nat) (w:World) (hb:Byt w a zs) (hO:okB (n:Int) zs=true) (hz:zs=enc n (val zs)) (hn:n≤4096) (hp:p≤n) (hs1:1≤s) (hs:s≤80) :
  Calls Tryz.prog 157 #[.agg #[.slice a zs.length cap,.int .i64 n],.int .i64 p,.int .i64 s] w fun e w'=>lgR w w' n (val zs) p s e:=by
 have hw:Below w.heap.size w (w.alloc (Obj.cells #[Value.slice a zs.length cap,Value.int IntKind.i64 n] 155)):=(Below.refl _ _).alloc (Nat.le_refl _) _
 have hl:zs.length≤281474976710656:=by rw [hz,enc_len];omega
 have HO:Hid (okB (n:Int) zs=true):=hO
 have HZ:Hid (zs=enc n (val zs)):=hz
 clear hO hz
 generalize hV:val zs=V at *
 clear hV
 go_enter Tryz.func157,Tryz.ntmps157
 go_wp2_with fail
 refine (specOk_any a cap zs _ _ (hb.below hw (Nat.le_refl _)) hl).mono ?_
 rintro e w1 ⟨rfl,hb1⟩
 rw [HO.out]
 have q0:w1.cell? ⟨w.heap.size,0,none⟩=some (.slice a zs.length cap):=keep hb1 (by simp) (by simp)
 have q1:w1.cell? ⟨w.heap.size,1,none⟩=some (.int .i64 n):=keep hb1 (by simp) (by simp)
 have hbb:=hw.trans (hb1.mono (by simp))
 clear hb1 hw
 go_wp2_with fail
 refine (l2getLens_any a cap zs n V p s w1 (hb.below hbb (Nat.le_refl _)) HZ.out hn hp hs1 hs).mono ?_
 rintro e w2 ⟨hb2,hy,hno⟩
 have HB2:Hid (Below w.heap.size w w2):=hbb.trans (hb2.mono hbb.size)
 have hsz:=hbb.size
 have p0:=keep hb2 (World.block_lt_of_cell? _ _ q0) q0
 have p1:=keep hb2 (World.block_lt_of_cell? _ _ q1) q1
 clear hb2 q0 q1
 by_cases hg:∃ res q,gqY n V p s res q
 ·obtain ⟨res,q,hr⟩:=hg
  obtain ⟨a',cp,rfl,hm⟩:=hy res q hr
  have HY:Hid (gqY n V p s res q):=hr
  have HA:Hid (MinI w2 w.heap.size w2.heap.size a' cp res):=hm.mono hsz (Nat.le_refl _)
  obtain ⟨hl1,hl2,hl3⟩:=lensB_ok hr.2.2
  have hpq:=(gq_ext n V s s p [] res q hr.1).2
  have HPU:=l2putLens_any a' cp res w2.heap.size w2.heap.size w2 _ HA.out.byt rfl ((Below.refl _ _).alloc (Nat.le_refl _) (.cells #[.slice none 0 0,.int .i64 0] 155)) (SI.new w2 _ (Nat.le_refl _)) hl2 hl3
  have HMU:Hid (∃ M U,lpF res=(M,U)∧M≤560):=⟨_,_,rfl,by have:=lp_le res res.length 0 0 0;show (lp res res.length 0 0 0).1≤560;omega⟩
  obtain ⟨M,U,hMU,hM5⟩:=HMU.out
  rw [hMU] at HPU
  have HLP:Hid (lpF res=(M,U)):=hMU
  have HUQ:Hid (∀ res' q',giY n V p s res' q'→res'=res∧q'=q∧M=q - p∧U=bt V p (q - p)):=by
   intro res' q' h
   obtain ⟨h1,h2⟩:=giY_iff.1 h
   obtain ⟨rfl,rfl⟩:res=res'∧q=q':=by have:=h1.1;rw [HY.out.1] at this;simpa using this
   rw [HLP.out] at h2
   simp only [Prod.mk.injEq] at h2
   exact ⟨rfl,rfl,h2⟩
  have HYES:Hid (M=q - p→U=bt V p (q - p)→giY n V p s res q):=fun h1 h2=>giY_iff.2 ⟨HY.out,by rw [HLP.out,←h2,h1]⟩
  clear hm hy hno hr hl3 hMU HMU
  generalize hrl:res.length=rl at *
  have HRL:Hid (res.length=rl):=hrl
  clear hrl
  go_wp2_with fail
  refine HPU.mono ?_
  clear HPU
  rintro e w4 ⟨rfl,⟨v,hR,hov,hU,hBR,-⟩,hb4⟩
  obtain ⟨ya,yc,rfl,hmy⟩:=hov.mine
  have HB4:Hid (Below w.heap.size w w4):=HB2.out.trans (hb4.mono HB2.out.size)
  have HA4:Hid (MinI w4 w.heap.size w4.heap.size a' cp res):=(HA.out.below hb4).mono (Nat.le_refl _) hb4.size
  have HYB:Hid (Byt w4 ya (enc M U)∧U<2 ^ M):=⟨hmy.byt,hU⟩
  have y0:=cellRR (j:=0) hR rfl
  have y1:=cellRR (j:=1) hR rfl
  have HBX:Hid (Bx2 w4 w.heap.size w2.heap.size a ya zs.length cap (enc M U).length yc n M):=⟨keep hb4 (World.block_lt_of_cell? _ _ p0) p0,keep hb4 (World.block_lt_of_cell? _ _ p1) p1,y0,y1⟩
  clear hov hmy hU hBR hb4 p0 p1 HA
  by_cases hMq:M=q - p
  ·have hMi:((M:Int) != (q:Int) - (p:Int))=false:=by simp;omega
   have HMQ:Hid (M=q - p∧True):=⟨hMq,trivial⟩
   clear hMq
   have HL7:Hid ((enc M U).length=(M+7) / 8∧zs.length=(n+7) / 8):=⟨enc_len M U,by rw [HZ.out];exact enc_len n V⟩
   have HQ:Hid (q≤n):=hpq.2 hp
   have hx1:=HBX.out.2.1
   have hy1:=HBX.out.2.2.2
   clear y0 y1
   go_wp2
   go_loopw [13] (fun iv wr=>∃ k:Nat,k≤M∧iv=.int .i64 k∧(∀ j,j<k→U / 2 ^ j % 2=V / 2 ^ (p+j) % 2)∧Below w4.heap.size w4 wr) (fun iv _=>M - (intOf iv).toNat)
   case atStart=>exact ⟨0,Nat.zero_le _,rfl,fun j hj=>by omega,Below.refl _ _⟩
   case round=>
    clear hx1 hy1
    obtain ⟨k,hk,rfl,hall,hbel⟩:=hrel
    have HAL:Hid (∀ j,j<k→U / 2 ^ j % 2=V / 2 ^ (p+j) % 2):=hall
    have HBR:Hid (Below w4.heap.size w4 wr):=hbel
    have HBX2:Hid (Bx2 wr w.heap.size w2.heap.size a ya zs.length cap (enc M U).length yc n M):=HBX.out.below hbel
    have hy1:=HBX2.out.2.2.2
    clear hall hbel
    by_cases hlt:k<M
    ·have hlt2:(k:Int)<(M:Int):=by omega
     have HU:Hid (bitAt (enc M U) (((k:Nat):Int)).toNat=U / 2 ^ k % 2):=by rw [Int.toNat_natCast];exact enc_bit M U k hlt
     have HV:Hid (bitAt zs ((p:Int)+(k:Int)).toNat=V / 2 ^ (p+k) % 2):=by
      have:=enc_bit n V (p+k) (by have:=HQ.out;have:=HMQ.out.1;omega)
      rw [←HZ.out] at this
      rw [show ((p:Int)+(k:Int)).toNat=p+k from by omega]
      exact this
     have HNE:Hid (¬U / 2 ^ k % 2=V / 2 ^ (p+k) % 2→¬∃ res q,giY n V p s res q):=by
      rintro h ⟨res',q',hh⟩
      obtain ⟨-,-,h3,h4⟩:=HUQ.out res' q' hh
      rw [←h3] at h4
      apply h
      rw [h4]
      exact bit_of_bt V p M k hlt
     have HAS:Hid (U / 2 ^ k % 2=V / 2 ^ (p+k) % 2→∀ j,j<k+1→U / 2 ^ j % 2=V / 2 ^ (p+j) % 2):=by
      intro h j hj
      by_cases he:j=k
      ·rw [he];exact h
      ·exact HAL.out j (by omega)
     have hu2:U / 2 ^ k % 2<2:=Nat.mod_lt _ (by omega)
     have hv2:V / 2 ^ (p+k) % 2<2:=Nat.mod_lt _ (by omega)
     have HBY:Hid (Byt wr ya (enc M U)∧Byt wr a zs):=⟨HYB.out.1.below HBR.out (Nat.le_refl _),(hb.below HB4.out (Nat.le_refl _)).below HBR.out (Nat.le_refl _)⟩
     generalize U / 2 ^ k % 2=u at *
     generalize V / 2 ^ (p+k) % 2=x at *
     generalize enc M U=ys at *
     have hkM:k<560:=by omega
     have hpn:p≤4096:=by omega
     have HWR:Hid (IntKind.i64.wrap ((p:Int)+(k:Int))=(p:Int)+(k:Int)∧True):=⟨by rw [IntKind.wrap_i64];omega,trivial⟩
     go_wp2_with fail
     go_region_held3 (fun W=>W.cell? ⟨w.heap.size,0,none⟩=some (.slice a zs.length cap)∧W.cell? ⟨w.heap.size,1,none⟩=some (.int .i64 (n:Nat))∧W.cell? ⟨w2.heap.size,0,none⟩=some (.slice ya ys.length yc)∧W.cell? ⟨w2.heap.size,1,none⟩=some (.int .i64 (M:Nat)))
      (first | exact HBX2.out | exact HBX7.out | exact HBX8.out)
      (first
       | (go_at_call_of 176 (Value.agg #[.slice ya ys.length yc,.int .i64 (M:Nat)]);refine (l1bit_any ya yc ys (M:Nat) (k:Nat) _ (by exact HBY.out.1) (by omega) (by have:=HL7.out.1;omega) (by omega)).mono ?_;rintro e w7 ⟨rfl,hb7⟩;have HB7:Hid (Below wr.heap.size wr w7):=(by first | exact hb7 | exact Below.drewS hb7);have HBX7:Hid (Bx2 w7 w.heap.size w2.heap.size a ya zs.length cap ys.length yc n M):=HBX2.out.below HB7.out;rw [HU.out];clear hb7)
       | (go_at_call_of 176 (Value.agg #[.slice a zs.length cap,.int .i64 (n:Nat)]);rw [HWR.out.1];refine (l1bit_any a cap zs (n:Nat) ((p:Int)+(k:Int)) _ (by exact HBY.out.2.below HB7.out (Nat.le_refl _)) (by omega) (by have:=HL7.out.2;have:=HQ.out;have:=HMQ.out.1;omega) (by omega)).mono ?_;rintro e w8 ⟨rfl,hb8⟩;have HB8:Hid (Below wr.heap.size wr w8):=(by first | exact HB7.out.trans (hb8.mono HB7.out.size) | exact HB7.out.trans ((Below.drewS hb8).mono HB7.out.size));have HBX8:Hid (Bx2 w8 w.heap.size w2.heap.size a ya zs.length cap ys.length yc n M):=HBX2.out.below HB8.out;rw [HV.out];clear hb8))
     have HBF:Hid (Below w.heap.size w w8):=HB4.out.trans ((HBR.out.trans (HB8.out.mono HBR.out.size)).mono HB4.out.size)
     have HBG:Hid (Below w4.heap.size w4 w8):=HBR.out.trans (HB8.out.mono HBR.out.size)
     clear HBX7 HBX8 HBX2 HB7 HB8 hy1
     by_cases hux:u=x
     ·have HAN:=HAS.out hux
      have hux2:((u:Int) != (x:Int))=false:=by simp;omega
      have HAN2:Hid _:=HAN
      clear HAN HAS HNE hux
      go_wp2
      go_roundw
      case rel=>exact ⟨k+1,by omega,by go_num,HAN2.out,HBG.out⟩
      case measure=>simp [intOf];omega
     ·have hux2:((u:Int) != (x:Int))=true:=by simp;omega
      have HN:Hid (¬∃ res q,giY n V p s res q):=HNE.out hux
      clear HAS HNE hux
      go_wp2
      exact bodyPost_ret (v:=.tuple #[.slice none 0 0,.int .i64 (-1),.bool false]) (by simp [results,Tryz.results157,go_sem]) rfl (lgR.no HBF.out HN.out)
    ·have hkM:k=M:=by omega
     subst hkM
     have hke:¬(k:Int)<(k:Int):=by omega
     have HYY:Hid (giY n V p s res q):=HYES.out HMQ.out.1 (by rw [←HMQ.out.1];exact bit_eq_all U V p k HYB.out.2 HAL.out)
     have HBF:Hid (Below w.heap.size w wr):=HB4.out.trans (HBR.out.mono HB4.out.size)
     have HMF:Hid (MinI wr w.heap.size wr.heap.size a' cp res):=(HA4.out.below HBR.out).mono (Nat.le_refl _) HBR.out.size
     go_wp2
     refine bodyPost_ret (v:=.tuple #[.slice a' rl cp,.int .i64 (q:Nat),.bool true]) (by simp [results,Tryz.results157,go_sem]) rfl ?_
     rw [←HRL.out]
     exact lgR.yes HBF.out HYY.out HMF.out
  ·have hMi:((M:Int) != (q:Int) - (p:Int))=true:=by simp;omega
   have HN:Hid (¬∃ res q,giY n V p s res q):=by
    rintro ⟨res',q',h⟩
    exact hMq (HUQ.out res' q' h).2.2.1
   go_wp2
   exact bodyPost_ret (v:=.tuple #[.slice none 0 0,.int .i64 (-1),.bool false]) (by simp [results,Tryz.results157,go_sem]) rfl (lgR.no HB4.out HN.out)
 ·obtain ⟨v,y,rfl⟩:=hno hg
  have HN:Hid (¬∃ res q,giY n V p s res q):=by
   rintro ⟨res',q',h⟩
   exact hg ⟨res',q',(giY_iff.1 h).1⟩
  clear hy hno hg
  go_wp2
  exact bodyPost_ret (v:=.tuple #[.slice none 0 0,.int .i64 (-1),.bool false]) (by simp [results,Tryz.results157,go_sem]) rfl (lgR.no HB2.out HN.out)
theorem wpowN (k:Nat) (h:k≤12):wrap64 (2 ^ k)=((2 ^ k:Nat):Int):=by
 have h2:2 ^ k≤2 ^ 12:=Nat.pow_le_pow_right (by omega) h
 have e:((2:Int) ^ k)=((2 ^ k:Nat):Int):=by simp
 rw [e]
 generalize 2 ^ k=P at *
 exact IntWalk.wrap64_in _ (by omega)

set_option maxHeartbeats 3200000 in
theorem l3getNorm_any (a:Option Addr) (cap:Nat) (zs:List Int) (n V p s:Nat) (w:World) (hb:Byt w a zs) (hz:zs=enc n V) (hn:n≤4096) (hp:p≤n) (hs1:1≤s) (hs:s≤80) :
  Calls Tryz.prog 160 #[.agg #[.slice a zs.length cap,.int .i64 n],.int .i64 p,.int .i64 s] w fun e w'=>Below w.heap.size w w' ∧
   (gotN n V p s→e=.returned (.tuple #[.slice (some ⟨w.heap.size+1,0,none⟩) s s,.int .i64 ((gL V p s).2:Nat),.bool true])∧OwI w' w.heap.size (w.heap.size+1) s (gXs V p s)) ∧
   (¬gotN n V p s→∃ v y,e=.returned (.tuple #[v,.int .i64 y,.bool false])):=by
 obtain ⟨i0,hi,hz0,hz1,hz2⟩:=info_parts Tryz.infoI64
 have HZ:Hid (zs=enc n V):=hz
 have HXL:Hid _:=gXs_len V p s
 have HBW:Hid (Below w.heap.size w (w.alloc (Obj.cells #[Value.slice a zs.length cap,Value.int IntKind.i64 n] 155))):=(Below.refl _ _).alloc (Nat.le_refl _) _
 have q0:(w.alloc (Obj.cells #[Value.slice a zs.length cap,Value.int IntKind.i64 n] 155)).cell? ⟨w.heap.size,0,none⟩=some (.slice a zs.length cap):=by simp
 have q1:(w.alloc (Obj.cells #[Value.slice a zs.length cap,Value.int IntKind.i64 n] 155)).cell? ⟨w.heap.size,1,none⟩=some (.int .i64 n):=by simp
 have Q:Hid _:=(⟨q0,q1⟩:_∧_)
 clear hz q0 q1
 go_enter Tryz.func160,Tryz.ntmps160
 go_wp2_with (at_make;refine wpList_make_full _ rfl _ _ 29 rfl w.heap.size 3 i0 (.int .i64 0) 1 Tryz.underlying29 hi hz0 hz1 .i64 .i64 _ _ s rfl rfl rfl rfl (by rw [hz2];omega) (by unfold maxLen;omega) (by simp) ?_;intro w1 hown hgrow)
 have h0:OwI w1 w.heap.size (w.heap.size+1) s (part (gXs V p s) 0):=by
  rw [part_zero,gXs_len]
  refine ⟨?_,by intro z hz;simp at hz;omega⟩
  rw [made_zeroI] at hown
  simpa using hown
 have hb1:Below (w.heap.size+1) (w.alloc (Obj.cells #[Value.slice a zs.length cap,Value.int IntKind.i64 n] 155)) w1:=(Below.refl _ _).grown hgrow (by simp) (by intro k hk;cases hk)
 have H0:Hid (OwI w1 w.heap.size (w.heap.size+1) s (part (gXs V p s) 0)):=h0
 have HB1:Hid (Below (w.heap.size+1) (w.alloc (Obj.cells #[Value.slice a zs.length cap,Value.int IntKind.i64 n] 155)) w1):=hb1
 clear h0 hown hgrow hi hz0 hz1 hz2 hb1
 generalize w.alloc (Obj.cells #[Value.slice a zs.length cap,Value.int IntKind.i64 n] 155)=W0 at *
 go_loopw [1,10,11] (fun t l i wr=>∃ k:Nat,k≤s∧i=.int .i64 k∧Below (w.heap.size+1) W0 wr ∧
   ((good n V p k∧l=.int .i64 ((gL V p k).1:Nat)∧t=.int .i64 ((gL V p k).2:Nat)∧OwI wr w.heap.size (w.heap.size+1) s (part (gXs V p s) k)) ∨
    (∃ L y:Int,L<0∧l=.int .i64 L∧t=.int .i64 y∧¬gotN n V p s))) (fun _ _ i _=>s - (intOf i).toNat)
 case atStart=>exact ⟨0,Nat.zero_le _,rfl,HB1.out,.inl ⟨fun j hj=>by omega,rfl,rfl,H0.out⟩⟩
 case round=>
  clear H0 HB1
  obtain ⟨k,hk,rfl,hbel,⟨hgood,rfl,rfl,hown⟩ | ⟨L,y,hL,rfl,rfl,hno⟩⟩:=hrel
  ·have HGD:Hid (good n V p k):=hgood
   have HO:Hid (OwI wr w.heap.size (w.heap.size+1) s (part (gXs V p s) k)):=hown
   have hq:=good_pos hp hgood
   have hbw:Below w.heap.size w wr:=HBW.out.trans (hbel.mono (by omega))
   have HBB:Hid (Below w.heap.size w wr):=hbw
   have b0:=keep hbel (by omega) Q.out.1
   have b1:=keep hbel (by omega) Q.out.2
   clear hgood hown hbw
   have hl:=gL_le V p k
   by_cases c0:(gL V p k).1=0
   ·obtain ⟨r1,r2,r3,r4⟩:=gL_rest hp HGD.out c0 s hk
    have HY:Hid (gotN n V p s):=⟨r1,r2⟩
    have HR3:Hid ((gL V p s).2=(gL V p k).2):=r3
    have hall:=HO.out
    rw [part_rest (by rw [HXL.out];exact hk) (fun j h1 h2=>by rw [HXL.out] at h2;rw [gXs_get V p s j h2,r4 j h1 h2];rfl)] at hall
    have HA:Hid (OwI wr w.heap.size (w.heap.size+1) s (gXs V p s)):=hall
    rw [c0]
    clear r1 r2 r3 r4 hall HO HGD c0 hl
    generalize (gL V p k).2=q at *
    by_cases hlt:k<s
    ·go_wp2
     exact bodyPost_ret (v:=.tuple #[.slice (some ⟨w.heap.size+1,0,none⟩) s s,.int .i64 (q:Nat),.bool true]) (by simp [results,Tryz.results160,go_sem]) rfl ⟨HBB.out,fun _=>⟨by rw [HR3.out],HA.out⟩,fun h=>absurd HY.out h⟩
    ·go_wp2
     exact bodyPost_ret (v:=.tuple #[.slice (some ⟨w.heap.size+1,0,none⟩) s s,.int .i64 (q:Nat),.bool true]) (by simp [results,Tryz.results160,go_sem]) rfl ⟨HBB.out,fun _=>⟨by rw [HR3.out],HA.out⟩,fun h=>absurd HY.out h⟩
   ·by_cases hlt:k<s
    ·have hb7:=bl_le7 _ hl
     have HXG:Hid ((gXs V p s).getD k 0=(gX V p k:Nat)):=gXs_get V p s k hlt
     have HX:Hid (gX V p k=V / 2 ^ (gL V p k).2 % 2 ^ bl (gL V p k).1):=rfl
     have hx:=gX_lt V p k
     have HBS:Hid _:=bad_size (n:=n) (V:=V) (p:=p) hlt
     have HBX:Hid _:=bad_share (n:=n) (V:=V) (p:=p) hlt
     have HGS:Hid _:=@good_succ n V p k
     have HS1:Hid _:=gL_succ1 V p k
     have HS2:Hid _:=gL_succ2 V p k
     have HB8:Hid _:=bl_lt (gL V p k).1 (by omega)
     have HGE:Hid _:=fun j hj=>bl_ge (gL V p k).1 j (by omega) hj
     generalize (gL V p k).1=l at *
     generalize (gL V p k).2=q at *
     generalize gX V p k=x at *
     generalize bl l=m at *
     have hl0:(0:Int)<l:=by omega
     go_wp2
     go_loopw [12] (fun i wi=>∃ j:Nat,j≤m∧i=.int .i64 j∧wi=wr) (fun i _=>m - (intOf i).toNat)
     case atStart=>exact ⟨0,Nat.zero_le _,rfl,rfl⟩
     case round=>
      obtain ⟨j,hj,rfl,rfl⟩:=hrel
      by_cases hjl:j<m
      ·have hp2:wrap64 (2 ^ j)≤(l:Int):=by rw [wpowN j (by omega)];have:=HGE.out j hjl;omega
       go_wp2
       go_roundw
       case rel=>exact ⟨j+1,by omega,by go_num,by simp⟩
       case measure=>simp [intOf];omega
      ·have hjm:j=m:=by omega
       subst hjm
       have hp1:(l:Int)<wrap64 (2 ^ j):=by rw [wpowN _ (by omega)];have:=HB8.out;omega
       have hp2:decide (wrap64 (2 ^ j)≤(l:Int))=false:=by simpa using hp1
       clear hj hjl HGE HB8 hp1
       by_cases c1:q+j≤n
       ·go_wp2_with fail
        refine (l1get_any a cap zs n q j n V _ (hb.below HBB.out (Nat.le_refl _)) HZ.out (by omega) (by omega) (by omega) (by omega) (by omega)).mono ?_
        rintro e w2 ⟨rfl,hb2⟩
        have hxe:V / 2 ^ ((q:Nat):Int).toNat % 2 ^ ((j:Nat):Int).toNat=x:=by rw [HX.out];simp
        rw [hxe]
        have HO2:Hid (OwI w2 w.heap.size (w.heap.size+1) s (part (gXs V p s) k)):=HO.out.below hb2 (Nat.le_refl _)
        have hlt1:=HO.out.lt.2
        have hbel2:Below (w.heap.size+1) W0 w2:=hbel.trans (hb2.mono (by omega))
        have hpl:(part (gXs V p s) k).length=s:=by rw [part_len _ _ (by rw [HXL.out];omega)];exact HXL.out
        have hdst:=HO2.out.cell k (by omega)
        have hfz:=HO2.out.frozen k
        have R2:=HO2.out.store k ((gXs V p s).getD k 0) (by rw [HXG.out];omega)
        rw [part_set _ _ (by rw [HXL.out];exact hlt),HXG.out] at R2
        have HR2:Hid (OwI (w2.setCell ⟨w.heap.size+1,k,none⟩ (.int .i64 (x:Nat))) w.heap.size (w.heap.size+1) s (part (gXs V p s) (k+1))):=R2
        have HB2:Hid (Below (w.heap.size+1) W0 (w2.setCell ⟨w.heap.size+1,k,none⟩ (.int .i64 (x:Nat)))):=hbel2.setCell (p:=⟨w.heap.size+1,k,none⟩) (Nat.le_refl _) (.int .i64 (x:Nat))
        clear R2 hpl HO2 hbel2 HX HXG hxe hbel b0 b1 HO hb2 hp2
        generalize (part (gXs V p s) k).getD k 0=old at *
        by_cases c2:x≤l
        ·have HG2:Hid (good n V p (k+1)):=HGS.out HGD.out c1 c2
         have E1:Hid ((l:Int) - (x:Nat)=(((gL V p (k+1)).1:Nat):Int)):=by have:=HS1.out;unfold Hid;omega
         have E2:Hid ((q:Int)+(j:Nat)=(((gL V p (k+1)).2:Nat):Int)):=by have:=HS2.out;unfold Hid;omega
         clear HS1 HS2 HBS HBX HGS
         go_wp2
         go_roundw
         case rel=>exact ⟨k+1,by omega,by go_num,by simpa using HB2.out,.inl ⟨HG2.out,by rw [E1.out],by rw [E2.out],by simpa using HR2.out⟩⟩
         case measure=>simp [intOf];omega
        ·have HN:Hid (¬gotN n V p s):=fun h=>HBX.out c2 h.1
         clear HS1 HS2 HBS HBX HGS
         go_wp2
         go_roundw
         case rel=>exact ⟨k+1,by omega,by go_num,by simpa using HB2.out,.inr ⟨(l:Int) - x,(q:Int)+j,by omega,rfl,rfl,HN.out⟩⟩
         case measure=>simp [intOf];omega
       ·have HN:Hid (¬gotN n V p s):=fun h=>HBS.out c1 h.1
        clear HS1 HS2 HBS HBX HGS HX HXG HO
        go_wp2
        exact bodyPost_ret (v:=.tuple #[.slice none 0 0,.int .i64 (-1),.bool false]) (by simp [results,Tryz.results160,go_sem]) rfl ⟨HBB.out,fun h=>absurd h HN.out,fun _=>⟨_,_,rfl⟩⟩
    ·have hks:k=s:=by omega
     subst hks
     have HN:Hid (¬gotN n V p k):=fun h=>c0 h.2
     generalize (gL V p k).1=l at *
     generalize (gL V p k).2=q at *
     have hne:((l:Int) == 0)=false:=by simp;omega
     clear HO HGD
     go_wp2
     exact bodyPost_ret (v:=.tuple #[.slice (some ⟨w.heap.size+1,0,none⟩) k k,.int .i64 (q:Nat),.bool false]) (by simp [results,Tryz.results160,go_sem]) rfl ⟨HBB.out,fun h=>absurd h HN.out,fun _=>⟨_,_,rfl⟩⟩
  ·have HN:Hid (¬gotN n V p s):=hno
   have HBB:Hid (Below w.heap.size w wr):=HBW.out.trans (hbel.mono (by omega))
   have hne:(L == 0)=false:=by simp;omega
   clear hno hbel
   by_cases hlt:k<s
   ·go_wp2
    exact bodyPost_ret (v:=.tuple #[.slice (some ⟨w.heap.size+1,0,none⟩) s s,.int .i64 y,.bool false]) (by simp [results,Tryz.results160,go_sem]) rfl ⟨HBB.out,fun h=>absurd h HN.out,fun _=>⟨_,_,rfl⟩⟩
   ·go_wp2
    exact bodyPost_ret (v:=.tuple #[.slice (some ⟨w.heap.size+1,0,none⟩) s s,.int .i64 y,.bool false]) (by simp [results,Tryz.results160,go_sem]) rfl ⟨HBB.out,fun h=>absurd h HN.out,fun _=>⟨_,_,rfl⟩⟩
end Go.Proofs.YthngimdjjmhboaaGreatDoor
