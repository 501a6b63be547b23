/-
  The program's symbolsByLength.
-/
import Derived.Test.YthngimdjjmhboaaGreatDoorOpen1
import Derived.Test.YthngimdjjmhboaaGreatDoorBox2
import Derived.Test.YthngimdjjmhboaaGreatDoorLGet1
namespace Go.Proofs.YthngimdjjmhboaaGreatDoor
open Go.RowKit
set_option linter.unusedVariables false

def bitAt (zs:List Int) (p:Nat):Nat:=(zs.getD (p / 8) 0).toNat / 2 ^ (p % 8) % 2

set_option maxHeartbeats 400000 in
theorem l1bit_any (a:Option Addr) (cap:Nat) (zs:List Int) (N p:Int) (w:World) (hb:Byt w a zs) (h0:0≤p) (h1:p.toNat / 8<zs.length) (hp:p≤8388608) :
  Calls Tryz.prog 176 #[.agg #[.slice a zs.length cap,.int .i64 N],.int .i64 p] w fun e w'=>e=.returned (.int .i64 (bitAt zs p.toNat:Nat))∧Below w.heap.size w w':=by
 have hw:Below w.heap.size w (w.alloc (Obj.cells #[Value.slice a zs.length cap,Value.int IntKind.i64 N] 155)):=(Below.refl _ _).alloc (Nat.le_refl _) _
 obtain ⟨q,rfl⟩:=Int.eq_ofNat_of_zero_le h0
 simp only [Int.toNat_natCast] at *
 obtain ⟨b,off,rfl,hbl,hc⟩:=hb.len_pos (q / 8) h1
 have hs:=hc (q / 8) h1
 have hr:=getD_rng hb.1 (q / 8)
 have hlen:(q / 8:Nat)<zs.length:=h1
 generalize hz:zs.getD (q / 8) 0=z at *
 have HZ:Hid (zs.getD (q / 8) 0=z):=hz
 clear hz hc
 go_enter Tryz.func176,Tryz.ntmps176
 go_wp2
 go_ret
 exact ⟨ret_int (by unfold bitAt;rw [HZ.out];exact bit64 z _ hr),hw⟩

def cd (v p:Nat):Nat→Nat
 | 0=>0
 | k+1=>2 * cd v p k+v / 2 ^ (p+k) % 2
theorem cd_lt (v p:Nat):∀ k,cd v p k<2 ^ k
 | 0=>by simp [cd]
 | k+1=>by
  have:=cd_lt v p k
  simp only [cd]
  rw [Nat.pow_succ]
  omega
def Hit (ls cs:List Int) (v p k i:Nat):Prop:=ls.getD i 0=(k:Int)∧cs.getD i 0=(cd v p k:Nat)
def NoHit (ls cs:List Int) (v p k:Nat):Prop:=∀ j i,1≤j→j≤k→i<ls.length→¬Hit ls cs v p j i

set_option maxHeartbeats 4000000 in
theorem l2one_any (a:Option Addr) (ca:Nat) (ls:List Int) (b:Option Addr) (cb:Nat) (cs:List Int) (x:Option Addr) (cx:Nat) (zs:List Int) (n v p:Nat) (w:World) (ha:Ins w a ls) (hb:Ins w b cs) (hx:Byt w x zs) (hz:zs=enc n v) (hn:n≤4104) (hp:p≤n) (hl:ls.length≤80) (hcl:cs.length=ls.length) :
  Calls Tryz.prog 180 #[.slice a ls.length ca,.slice b ls.length cb,.agg #[.slice x zs.length cx,.int .i64 n],.int .i64 p] w fun e w'=>Below w.heap.size w w' ∧
   ((∃ k i,1≤k∧k≤12∧p+k≤n∧i<ls.length∧Hit ls cs v p k i∧(∀ j,j<i→¬Hit ls cs v p k j)∧NoHit ls cs v p (k - 1)∧e=.returned (.tuple #[.int .i64 i,.int .i64 (p+k:Nat)])) ∨
    (NoHit ls cs v p (min 12 (n - p))∧e=.returned (.tuple #[.int .i64 (-1),.int .i64 (-1)]))):=by
 have hw:Below w.heap.size w (w.alloc (Obj.cells #[Value.slice x zs.length cx,Value.int IntKind.i64 n] 155)):=(Below.refl _ _).alloc (Nat.le_refl _) _
 have HW:Hid _:=hw
 have HA:Hid (Ins w a ls):=ha
 have HB:Hid (Ins w b cs):=hb
 have HX:Hid (Byt w x zs):=hx
 have HZ:Hid (zs=enc n v):=hz
 have HL:Hid (zs.length=(n+7) / 8):=by unfold Hid;rw [hz,enc_len]
 have HC:Hid (cs.length=ls.length):=hcl
 clear hw ha hb hx hz hcl
 generalize hz0:zs.length=Z at *
 have HZL:Hid (zs.length=Z):=hz0
 clear hz0
 generalize hn0:ls.length=m at *
 have HLL:Hid (ls.length=m):=hn0
 clear hn0
 go_enter Tryz.func180,Tryz.ntmps180
 go_wp2
 go_loopw [3,10,11] (fun t c k wr=>∃ (j:Nat) (tz kz cz:Int),j≤12∧p+j≤n∧tz=(p:Int)+j∧kz=(j:Int)+1∧cz=(cd v p j:Nat)∧t=.int .i64 tz∧c=.int .i64 cz∧k=.int .i64 kz∧Below w.heap.size w wr∧w.heap.size<wr.heap.size ∧
   wr.cell? ⟨w.heap.size,0,none⟩=some (.slice x Z cx)∧wr.cell? ⟨w.heap.size,1,none⟩=some (.int .i64 n)∧NoHit ls cs v p j) (fun _ _ k _=>(13 - intOf k).toNat)
 case atStart=>exact ⟨0,p,1,0,by omega,by omega,by simp,by simp,by simp [cd],rfl,rfl,rfl,HW.out,by simp,by simp,by simp,fun j i h1 h2=>by omega⟩
 case round=>
  clear HW
  obtain ⟨j,tz,kz,cz,hj,hpj,ht,hk,hc,rfl,rfl,rfl,hbel,hsz,p0,p1,hnh⟩:=hrel
  have HNH:Hid (NoHit ls cs v p j):=hnh
  have HBL:Hid (Below w.heap.size w wr):=hbel
  have HT:Hid (tz=(p:Int)+j):=ht
  have HK:Hid (kz=(j:Int)+1):=hk
  have hcb:=cd_lt v p j
  have hcp:2 ^ j≤2 ^ 12:=Nat.pow_le_pow_right (by omega) hj
  have hcz:0≤cz∧cz≤4096:=by omega
  have HCZ:Hid (cz=(cd v p j:Nat)):=hc
  have htz:0≤tz∧tz≤4200:=by omega
  have hkz:1≤kz∧kz≤13:=by omega
  clear hnh hbel hcb hcp hc
  by_cases hgo:j<12∧p+j<n
  ·have h1:kz≤12:=by omega
   have h2:tz<(n:Int):=by omega
   have HBT:Hid (bitAt zs tz.toNat=v / 2 ^ (p+j) % 2):=by
    have:=enc_bit n v (p+j) (by omega)
    rw [←HZ.out] at this
    unfold Hid
    rw [show tz.toNat=p+j from by omega]
    exact this
   have HZT:Hid (tz.toNat / 8<zs.length):=by have:=HL.out;have:=HZL.out;unfold Hid;omega
   have HLB:=l1bit_any x cx zs (n:Int) tz wr (HX.out.below HBL.out (Nat.le_refl _)) htz.1 HZT.out (by omega)
   rw [HZL.out,HBT.out] at HLB
   have hb2:v / 2 ^ (p+j) % 2<2:=Nat.mod_lt _ (by omega)
   have HCD:Hid (2 * cz+((v / 2 ^ (p+j) % 2:Nat):Int)=(cd v p (j+1):Nat)):=by have:=HCZ.out;unfold Hid;simp only [cd];omega
   generalize hbb:((v / 2 ^ (p+j) % 2:Nat):Int)=bz at *
   have hbz:0≤bz∧bz≤1:=by omega
   clear ht hk hb2 hbb
   go_wp2_with fail
   refine HLB.mono ?_
   clear HLB
   rintro e w1 ⟨rfl,hb1⟩
   have HB1:Hid (Below w.heap.size w w1):=HBL.out.trans (hb1.mono (Nat.le_of_lt hsz))
   have q0:=keep hb1 hsz p0
   have q1:=keep hb1 hsz p1
   have hsz1:w.heap.size<w1.heap.size:=Nat.lt_of_lt_of_le hsz hb1.size
   clear hb1 p0 p1 hsz
   have hdz:0≤2 * cz+bz∧2 * cz+bz≤8193:=by omega
   go_wp2
   generalize 2 * cz+bz=ez at *
   go_loopw [12] (fun i wi=>∃ q:Nat,q≤m∧i=.int .i64 q∧wi=w1∧∀ y,y<q→¬Hit ls cs v p (j+1) y) (fun i _=>m - (intOf i).toNat)
   case atStart=>exact ⟨0,Nat.zero_le _,rfl,rfl,fun y hy=>by omega⟩
   case round=>
    obtain ⟨q,hq,rfl,hwi,hny⟩:=hrel
    subst hwi
    have HNY:Hid (∀ y,y<q→¬Hit ls cs v p (j+1) y):=hny
    clear hny
    by_cases hlt:q<m
    ·obtain ⟨b1,o1,rfl,hb1,hc1⟩:=(HA.out.below HB1.out (Nat.le_refl _)).len_pos q (by rw [HLL.out];exact hlt)
     have l0:=hc1 q (by rw [HLL.out];exact hlt)
     obtain ⟨b2,o2,rfl,hb2,hc2⟩:=(HB.out.below HB1.out (Nat.le_refl _)).len_pos q (by rw [HC.out];exact hlt)
     have d0:=hc2 q (by rw [HC.out];exact hlt)
     have HHI:Hid (Hit ls cs v p (j+1) q↔ls.getD q 0=kz∧cs.getD q 0=ez):=by
      unfold Hid Hit
      rw [HCD.out,HK.out]
      simp
     generalize ls.getD q 0=lz at *
     generalize cs.getD q 0=dz at *
     clear hc1 hc2
     have HGO:Hid (¬Hit ls cs v p (j+1) q→∀ y,y<q+1→¬Hit ls cs v p (j+1) y):=fun h y hy=>by
      by_cases hyq:y=q
      ·subst hyq;exact h
      ·exact HNY.out y (by omega)
     by_cases hlk:lz=kz
     ·subst hlk
      by_cases hde:dz=ez
      ·subst hde
       have HH:Hid (Hit ls cs v p (j+1) q):=HHI.out.2 ⟨rfl,rfl⟩
       have HPK:Hid (tz+1=((p+(j+1):Nat):Int)):=by have:=HT.out;unfold Hid;omega
       clear HHI HGO
       go_wp2
       refine bodyPost_ret (v:=.tuple #[.int .i64 q,.int .i64 (tz+1)]) (by simp [results,Tryz.results180,go_sem]) rfl ?_
       exact ⟨HB1.out,.inl ⟨j+1,q,by omega,by omega,by omega,by omega,HH.out,HNY.out,HNH.out,by rw [HPK.out]⟩⟩
      ·have HN2:Hid (∀ y,y<q+1→¬Hit ls cs v p (j+1) y):=HGO.out (fun h=>hde (HHI.out.1 h).2)
       have hne:(dz == ez)=false:=by simpa using hde
       clear HHI HGO HNY
       go_wp2
       go_roundw
       case rel=>exact ⟨q+1,by omega,by go_num,trivial,HN2.out⟩
       case measure=>simp [intOf];omega
     ·have HN2:Hid (∀ y,y<q+1→¬Hit ls cs v p (j+1) y):=HGO.out (fun h=>hlk (HHI.out.1 h).1)
      have hne:(lz == kz)=false:=by simpa using hlk
      clear HHI HGO HNY
      go_wp2
      go_roundw
      case rel=>exact ⟨q+1,by omega,by go_num,trivial,HN2.out⟩
      case measure=>simp [intOf];omega
    ·have hqm:q=m:=by omega
     subst hqm
     have HN2:Hid (NoHit ls cs v p (j+1)):=fun y i h3 h4 h5=>by
      by_cases hy:y=j+1
      ·subst hy;exact HNY.out i (by rw [HLL.out] at h5;exact h5)
      ·exact HNH.out y i h3 (by omega) h5
     have HT2:Hid (tz+1=(p:Int)+(j+1:Nat)):=by have:=HT.out;unfold Hid;omega
     have HK2:Hid (kz+1=((j+1:Nat):Int)+1):=by have:=HK.out;unfold Hid;omega
     clear HNY HNH
     go_wp2
     go_roundw
     case rel=>exact ⟨j+1,tz+1,kz+1,ez,by omega,by omega,HT2.out,HK2.out,HCD.out,by go_num,rfl,by go_num,HB1.out,hsz1,q0,q1,HN2.out⟩
     case measure=>simp [intOf];omega
  ·have HFN:Hid (NoHit ls cs v p (min 12 (n - p))):=by
    have e:min 12 (n - p)=j:=by omega
    rw [e];exact HNH.out
   by_cases h12:j<12
   ·have h1:kz≤12:=by omega
    have h2:(n:Int)≤tz:=by omega
    clear ht hk
    go_wp2
    refine bodyPost_ret (v:=.tuple #[.int .i64 (-1),.int .i64 (-1)]) (by simp [results,Tryz.results180,go_sem]) rfl ?_
    exact ⟨HBL.out,.inr ⟨HFN.out,rfl⟩⟩
   ·have h1:12<kz:=by omega
    clear ht hk
    go_wp2
    refine bodyPost_ret (v:=.tuple #[.int .i64 (-1),.int .i64 (-1)]) (by simp [results,Tryz.results180,go_sem]) rfl ?_
    exact ⟨HBL.out,.inr ⟨HFN.out,rfl⟩⟩
def atL (zs:List Int) (L i:Nat):List Int:=((List.range i).filter (fun s=>decide (zs.getD s 0=(L:Int)))).map (fun s=>((s:Nat):Int))
def sbL (zs:List Int):Nat→List Int
 | 0=>[]
 | l+1=>sbL zs l++atL zs (l+1) zs.length
theorem atL_zero (zs:List Int) (L:Nat):atL zs L 0=[]:=by simp [atL]
theorem atL_yes (zs:List Int) (L i:Nat) (h:zs.getD i 0=(L:Int)):atL zs L (i+1)=atL zs L i++[(i:Int)]:=by
 unfold atL
 rw [List.range_succ,List.filter_append,List.map_append]
 congr 1
 rw [List.filter_cons_of_pos (by simpa using h)]
 simp
theorem atL_no (zs:List Int) (L i:Nat) (h:¬zs.getD i 0=(L:Int)):atL zs L (i+1)=atL zs L i:=by
 unfold atL
 rw [List.range_succ,List.filter_append,List.map_append]
 rw [List.filter_cons_of_neg (by simpa using h)]
 simp
theorem atL_len (zs:List Int) (L i:Nat):(atL zs L i).length≤i:=by
 unfold atL
 rw [List.length_map]
 have:=List.length_filter_le (fun s=>decide (zs.getD s 0=(L:Int))) (List.range i)
 simpa using this
theorem sbL_len (zs:List Int) (l:Nat):(sbL zs l).length≤l * zs.length:=by
 induction l with
 | zero=>simp [sbL]
 | succ l ih=>
  have:=atL_len zs (l+1) zs.length
  simp only [sbL,List.length_append,Nat.add_mul]
  omega
theorem atL_mem (zs:List Int) (L i:Nat):∀ z ∈ atL zs L i,∃ s:Nat,z=s∧s<i∧zs.getD s 0=(L:Int):=by
 intro z hz
 simp only [atL,List.mem_map,List.mem_filter,List.mem_range,decide_eq_true_eq] at hz
 obtain ⟨s,⟨h1,h2⟩,rfl⟩:=hz
 exact ⟨s,rfl,h1,h2⟩
theorem sbL_mem (zs:List Int) (l:Nat):∀ z ∈ sbL zs l,∃ s:Nat,z=s∧s<zs.length∧1≤zs.getD s 0∧zs.getD s 0≤(l:Int):=by
 induction l with
 | zero=>simp [sbL]
 | succ l ih=>
  intro z hz
  simp only [sbL,List.mem_append] at hz
  rcases hz with hz | hz
  ·obtain ⟨s,h1,h2,h3,h4⟩:=ih z hz
   exact ⟨s,h1,h2,h3,by omega⟩
  ·obtain ⟨s,h1,h2,h3⟩:=atL_mem _ _ _ z hz
   exact ⟨s,h1,h2,by omega,by omega⟩

set_option maxHeartbeats 3200000 in
theorem syms_any (a:Option Addr) (cap:Nat) (zs:List Int) (w:World) (hb:Ins w a zs) (hn:zs.length≤80) :
  Calls Tryz.prog 235 #[.slice a zs.length cap] w fun e w'=>
   ∃ a' cp,e=.returned (.slice a' (sbL zs 12).length cp)∧MinI w' w.heap.size w'.heap.size a' cp (sbL zs 12)∧Below w.heap.size w w':=by
 obtain ⟨i0,hi,hz0,hz1,hz2⟩:=info_parts Tryz.infoI64
 have HSB:Hid (∀ l,sbL zs (l+1)=sbL zs l++atL zs (l+1) zs.length):=fun _=>rfl
 have HSL:Hid _:=sbL_len zs
 have HAY:Hid _:=atL_yes zs
 have HAN:Hid _:=atL_no zs
 have HAZ:Hid _:=atL_zero zs
 have HAL:Hid _:=atL_len zs
 generalize hlen:zs.length=n at *
 have HL:Hid (zs.length=n):=hlen
 clear hlen
 go_enter Tryz.func235,Tryz.ntmps235
 go_wp2
 go_loopw [3,4] (fun o l wr=>∃ (M:Nat) (y:Int),y=M∧1≤M∧M≤13∧l=.int .i64 y∧OVI wr w.heap.size o (sbL zs (M - 1))∧Below w.heap.size w wr) (fun _ l _=>13 - (intOf l).toNat)
 case atStart=>exact ⟨1,1,rfl,by omega,by omega,rfl,OVI.nil _ _,Below.refl _ _⟩
 case round=>
  obtain ⟨M,y,hy,hM1,hM,rfl,hov,hbel⟩:=hrel
  obtain ⟨ao,co,rfl⟩:=hov.form
  have hsl:=HSL.out (M - 1)
  have hlb:(M - 1) * n≤12 * 80:=Nat.mul_le_mul (by omega) hn
  have hm:(sbL zs (M - 1)).length≤960:=by omega
  have HOV:Hid (OVI wr w.heap.size (.slice ao (sbL zs (M - 1)).length co) (sbL zs (M - 1))):=hov
  clear hov hsl hlb
  have HMY:Hid (y=(M:Int)):=hy
  have HM1:Hid (1≤M∧M≤13):=⟨hM1,hM⟩
  have hy1:1≤y∧y≤13:=by omega
  clear hy hM1 hM
  by_cases hL12:y≤12
  ·have HB0:Hid (Below w.heap.size w wr):=hbel
   have HMS:Hid (sbL zs (M+1 - 1)=sbL zs (M - 1)++atL zs M n):=by
    obtain ⟨l,rfl⟩:∃ l,M=l+1:=⟨M - 1,by have:=HM1.out;omega⟩
    exact HSB.out l
   clear hbel
   generalize sbL zs (M - 1)=q0 at *
   generalize hm0:q0.length=m0 at *
   have HM0:Hid (q0.length=m0):=hm0
   clear hm0
   go_wp2
   go_loopw [3,13] (fun o i wi=>∃ k:Nat,k≤n∧i=.int .i64 k∧OVI wi w.heap.size o (q0++atL zs M k)∧Below w.heap.size w wi) (fun _ i _=>n - (intOf i).toNat)
   case atStart=>exact ⟨0,Nat.zero_le _,rfl,by rw [HAZ.out,List.append_nil];exact HOV.out,HB0.out⟩
   case round=>
    clear HOV HB0
    obtain ⟨k,hk,rfl,hov,hbel⟩:=hrel
    by_cases hlt:k<n
    ·obtain ⟨b1,o1,rfl,hb1,hc1⟩:=(hb.below hbel (Nat.le_refl _)).len_pos k (by rw [HL.out];exact hlt)
     have hs1:=hc1 k (by rw [HL.out];exact hlt)
     have g1:=getD_rngI hb.1 k
     have hal:=HAL.out M k
     have HY:=HAY.out M k
     have HN:=HAN.out M k
     obtain ⟨au,cu,rfl⟩:=hov.form
     have hsz:=hbel.size
     clear hc1
     generalize zs.getD k 0=x at *
     have hlen2:(q0++atL zs M k).length≤2000:=by rw [List.length_append,HM0.out];omega
     clear hal
     generalize hq:q0++atL zs M k=q at *
     by_cases hx:x=y
     ·have HE:Hid (q++[(k:Int)]=q0++atL zs M (k+1)):=by unfold Hid;rw [HY (hx.trans HMY.out),←List.append_assoc,hq]
      have HQR:Hid (∀ z ∈ q,-9223372036854775808≤z∧z≤9223372036854775807):=hov.2
      have hu:=hov.1
      have HOV:Hid (OVI wr w.heap.size (.slice au q.length cu) q):=hov
      clear HY HN hq hov
      subst hx
      generalize hql:q.length=m at *
      have HQL:Hid (q.length=m):=hql
      clear hql
      go_wp2_with (at_builtin;(refine wpList_append_lies _ rfl (.tmp 21) (.tmp 23) 29 rfl w.heap.size 3 i0 (.int .i64 0) 1 8 Tryz.underlying29 hi hz0 hz1 hz2 rfl (by decide) (.slice au m cu) m (q.map (Value.int .i64)) rfl (hu.alloc _) ⟨wr.heap.size,0,none⟩ 1 1 [.int .i64 (k:Nat)] rfl rfl (by intro j y hj;match j,hj with | 0,hj=>(simp at hj;subst hj;simp [Addr.add])) (by intro y hy;simp at hy;subst hy;rfl) (by omega) (by unfold maxLen;omega) (by omega) (by simp;omega) _ rfl ?_);intro g cap1 w1 hown hgrow hat hlt1)
      have HOV2:Hid (OVI w1 w.heap.size (.slice (some ⟨g,0,none⟩) (m+1) cap1) (q++[(k:Int)])):=OVI.app HQL.out HQR.out (by omega) hown
      have HB2:Hid (Below w.heap.size w w1):=app_below hbel hsz HOV.out hgrow
      clear hown hgrow hat hlt1 HOV hu hbel
      go_roundw
      case rel=>exact ⟨k+1,by omega,by go_num,by rw [←HE.out];exact HOV2.out,HB2.out⟩
      case measure=>simp [intOf];omega
     ·have HE:Hid (q=q0++atL zs M (k+1)):=by unfold Hid;rw [HN (fun h=>hx (h.trans HMY.out.symm)),hq]
      have hxx:(x == y)=false:=by simpa using hx
      have HOV:Hid _:=hov
      clear HY HN hq hov hx
      go_wp2
      go_roundw
      case rel=>exact ⟨k+1,by omega,by go_num,by rw [←HE.out];exact HOV.out,hbel⟩
      case measure=>simp [intOf];omega
    ·have hkn:k=n:=by omega
     subst hkn
     obtain ⟨au,cu,rfl⟩:=hov.form
     have HOV:Hid _:=hov
     clear hov
     go_wp2
     go_roundw
     case rel=>exact ⟨M+1,y+1,by have:=HMY.out;omega,by omega,by have:=HMY.out;omega,by go_num,by rw [HMS.out];exact HOV.out,hbel⟩
     case measure=>simp [intOf];omega
  ·have hLe:M=13:=by have:=HMY.out;have:=HM1.out;omega
   subst hLe
   have HOV2:Hid (OVI wr w.heap.size (.slice ao (sbL zs (13 - 1)).length co) (sbL zs 12)):=HOV.out
   clear HOV
   go_wp2
   go_ret
   obtain ⟨a',cp,he,hmm⟩:=HOV2.out.mine
   exact ⟨a',cp,congrArg Ending.returned he,hmm,hbel⟩
end Go.Proofs.YthngimdjjmhboaaGreatDoor
