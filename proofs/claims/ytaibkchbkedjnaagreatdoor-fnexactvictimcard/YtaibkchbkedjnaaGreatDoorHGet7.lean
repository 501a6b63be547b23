/- Lemmas on the way. -/
import Derived.Test.YtaibkchbkedjnaaGreatDoorBit1
import Derived.Test.YtaibkchbkedjnaaGreatDoorOpen1
import Derived.Test.YtaibkchbkedjnaaGreatDoorPlP
import Derived.Deep.AppendLies
import Derived.Test.YtaibkchbkedjnaaGreatDoorPut1
import Derived.BigRegion
set_option maxRecDepth 20000
set_option maxHeartbeats 16000000
namespace Go.Proofs.YtaibkchbkedjnaaGreatDoor
open Go.RowKit
set_option linter.unusedVariables false
def cd (v p:Nat):Nat→Nat
 | 0=>0
 | k+1=>2*cd v p k+v / 2 ^ (p+k) % 2
theorem cd_lt (v p:Nat):∀ k,cd v p k<2 ^ k
 | 0=>by simp [cd]
 | k+1=>by
  have:=cd_lt v p k
  simp only [cd]
  rw [Nat.pow_succ]
  omega
def Hit (ls cs:List Int) (v p k i:Nat):Prop:=ls.getD i 0=(k:Int)∧cs.getD i 0=(cd v p k:Nat)
def NoHit (ls cs:List Int) (v p k:Nat):Prop:=∀ j i,1≤j→j≤k→i<ls.length→¬Hit ls cs v p j i
theorem l2one_any (a:Option Addr) (ca:Nat) (ls:List Int) (b:Option Addr) (cb:Nat) (cs:List Int) (x:Option Addr) (cx:Nat) (zs:List Int) (n v p:Nat) (w:World) (ha:Ins w a ls) (hb:Ins w b cs) (hx:Byt w x zs) (hz:zs=enc n v) (hn:n≤4104) (hp:p≤n) (hl:ls.length≤80) (hcl:cs.length=ls.length) :
  Calls Tryz.prog 180 #[.slice a ls.length ca,.slice b ls.length cb,.agg #[.slice x zs.length cx,.int .i64 n],.int .i64 p] w fun e w'=>Below w.heap.size w w' ∧
   ((∃ k i, 1 ≤ k ∧ k ≤ 12 ∧ p + k ≤ n ∧ i < ls.length ∧ Hit ls cs v p k i ∧ (∀ j, j < i → ¬ Hit ls cs v p k j) ∧ NoHit ls cs v p (k-1) ∧ e = .returned (.tuple #[.int .i64 i, .int .i64 (p + k : Nat)])) ∨
    (NoHit ls cs v p (min 12 (n-p))∧e=.returned (.tuple #[.int .i64 (-1),.int .i64 (-1)]))):=by
 have hw:Below w.heap.size w (w.alloc (Obj.cells #[.slice x zs.length cx,.int .i64 n] 155)):=bAw
 have HW:Hid _:=hw
 have HA:Hid (Ins w a ls):=ha
 have HB:Hid (Ins w b cs):=hb
 have HX:Hid (Byt w x zs):=hx
 have HZ:Hid (zs=enc n v):=hz
 have HL:Hid (zs.length=(n+7) / 8):=by unfold Hid;rw [hz,enc_len]
 have HC:Hid (cs.length=ls.length):=hcl
 clear hw ha hb hx hz hcl
 generalize hz0:zs.length=Z at *
 have HZL:Hid (zs.length=Z):=hz0
 clear hz0
 generalize hn0:ls.length=m at *
 have HLL:Hid (ls.length=m):=hn0
 clear hn0
 go_enter Tryz.func180,Tryz.ntmps180
 go_wp2
 go_loopw [3,10,11] (fun t c k wr=>∃ (j:Nat) (tz kz cz:Int),j≤12∧p+j≤n∧tz=(p:Int)+j∧kz=(j:Int)+1∧cz=(cd v p j:Nat)∧t=.int .i64 tz∧c=.int .i64 cz∧k=.int .i64 kz∧Below w.heap.size w wr∧w.heap.size<wr.heap.size ∧
   wr.cell? ⟨w.heap.size,0,none⟩=some (.slice x Z cx)∧wr.cell? ⟨w.heap.size,1,none⟩=some (.int .i64 n)∧NoHit ls cs v p j) (fun _ _ k _=>(13-intOf k).toNat)
 case atStart=>exact ⟨0,p,1,0,by omega,by omega,by simp,by simp,by simp [cd],rfl,rfl,rfl,HW.out,by simp,by simp,by simp,fun j i h1 h2=>by omega⟩
 case round=>
  clear HW
  obtain ⟨j,tz,kz,cz,hj,hpj,ht,hk,hc,rfl,rfl,rfl,hbel,hsz,p0,p1,hnh⟩:=hrel
  have HNH:Hid (NoHit ls cs v p j):=hnh
  have HBL:Hid (Below w.heap.size w wr):=hbel
  have HT:Hid (tz=(p:Int)+j):=ht
  have HK:Hid (kz=(j:Int)+1):=hk
  have hcb:=cd_lt v p j
  have hcp:2 ^ j≤2 ^ 12:=Nat.pow_le_pow_right (by omega) hj
  have hcz:0≤cz∧cz≤4096:=by omega
  have HCZ:Hid (cz=(cd v p j:Nat)):=hc
  have htz:0≤tz∧tz≤4200:=by omega
  have hkz:1≤kz∧kz≤13:=by omega
  clear hnh hbel hcb hcp hc
  by_cases hgo:j<12∧p+j<n
  ·have h1:kz≤12:=by omega
   have h2:tz<(n:Int):=by omega
   have HBT:Hid (bitAt zs tz.toNat=v / 2 ^ (p+j) % 2):=by
    have:=enc_bit n v (p+j) (by omega)
    rw [←HZ.out] at this
    unfold Hid
    rw [show tz.toNat=p+j from by omega]
    exact this
   have HZT:Hid (tz.toNat / 8<zs.length):=by have:=HL.out;have:=HZL.out;unfold Hid;omega
   have HLB:=l1bit_any x cx zs (n:Int) tz wr (HX.out.below HBL.out nl) htz.1 HZT.out (by omega)
   rw [HZL.out,HBT.out] at HLB
   have hb2:v / 2 ^ (p+j) % 2<2:=Nat.mod_lt _ (by omega)
   have HCD:Hid (2*cz+((v / 2 ^ (p+j) % 2:Nat):Int)=(cd v p (j+1):Nat)):=by have:=HCZ.out;unfold Hid;simp only [cd];omega
   generalize hbb:((v / 2 ^ (p+j) % 2:Nat):Int)=bz at *
   have hbz:0≤bz∧bz≤1:=by omega
   clear ht hk hb2 hbb
   go_wp2_with fail
   refine HLB.mono ?_
   clear HLB
   rintro e w1 ⟨rfl,hb1⟩
   have HB1:Hid (Below w.heap.size w w1):=HBL.out.trans (hb1.mono (Nat.le_of_lt hsz))
   have q0:=keep hb1 hsz p0
   have q1:=keep hb1 hsz p1
   have hsz1:w.heap.size<w1.heap.size:=Nat.lt_of_lt_of_le hsz hb1.size
   clear hb1 p0 p1 hsz
   have hdz:0≤2*cz+bz∧2*cz+bz≤8193:=by omega
   go_wp2
   generalize 2*cz+bz=ez at *
   go_loopw [12] (fun i wi=>∃ q:Nat,q≤m∧i=.int .i64 q∧wi=w1∧∀ y,y<q→¬Hit ls cs v p (j+1) y) (fun i _=>m-(intOf i).toNat)
   case atStart=>exact ⟨0,Nat.zero_le _,rfl,rfl,fun y hy=>by omega⟩
   case round=>
    obtain ⟨q,hq,rfl,hwi,hny⟩:=hrel
    subst hwi
    have HNY:Hid (∀ y,y<q→¬Hit ls cs v p (j+1) y):=hny
    clear hny
    by_cases hlt:q<m
    ·obtain ⟨b1,o1,rfl,hb1,hc1⟩:=(HA.out.below HB1.out nl).len_pos q (by rw [HLL.out];exact hlt)
     have l0:=hc1 q (by rw [HLL.out];exact hlt)
     obtain ⟨b2,o2,rfl,hb2,hc2⟩:=(HB.out.below HB1.out nl).len_pos q (by rw [HC.out];exact hlt)
     have d0:=hc2 q (by rw [HC.out];exact hlt)
     have HHI:Hid (Hit ls cs v p (j+1) q↔ls.getD q 0=kz∧cs.getD q 0=ez):=by
      unfold Hid Hit
      rw [HCD.out,HK.out]
      simp
     generalize ls.getD q 0=lz at *
     generalize cs.getD q 0=dz at *
     clear hc1 hc2
     have HGO:Hid (¬Hit ls cs v p (j+1) q→∀ y,y<q+1→¬Hit ls cs v p (j+1) y):=fun h y hy=>by
      by_cases hyq:y=q
      ·subst hyq;exact h
      ·exact HNY.out y (by omega)
     by_cases hlk:lz=kz
     ·subst hlk
      by_cases hde:dz=ez
      ·subst hde
       have HH:Hid (Hit ls cs v p (j+1) q):=HHI.out.2 ⟨rfl,rfl⟩
       have HPK:Hid (tz+1=((p+(j+1):Nat):Int)):=by have:=HT.out;unfold Hid;omega
       clear HHI HGO
       go_wp2
       refine bodyPost_ret (v:=.tuple #[.int .i64 q,.int .i64 (tz+1)]) (by simp [results,Tryz.results180,go_sem]) rfl ?_
       exact ⟨HB1.out,.inl ⟨j+1,q,by omega,by omega,by omega,by omega,HH.out,HNY.out,HNH.out,by rw [HPK.out]⟩⟩
      ·have HN2:Hid (∀ y,y<q+1→¬Hit ls cs v p (j+1) y):=HGO.out (fun h=>hde (HHI.out.1 h).2)
       have hne:(dz == ez)=false:=by simpa using hde
       clear HHI HGO HNY
       go_wp2
       go_roundw
       case rel=>exact ⟨q+1,by omega,by go_num,trivial,HN2.out⟩
       case measure=>simp [intOf];omega
     ·have HN2:Hid (∀ y,y<q+1→¬Hit ls cs v p (j+1) y):=HGO.out (fun h=>hlk (HHI.out.1 h).1)
      have hne:(lz == kz)=false:=by simpa using hlk
      clear HHI HGO HNY
      go_wp2
      go_roundw
      case rel=>exact ⟨q+1,by omega,by go_num,trivial,HN2.out⟩
      case measure=>simp [intOf];omega
    ·have hqm:q=m:=by omega
     subst hqm
     have HN2:Hid (NoHit ls cs v p (j+1)):=fun y i h3 h4 h5=>by
      by_cases hy:y=j+1
      ·subst hy;exact HNY.out i (by rw [HLL.out] at h5;exact h5)
      ·exact HNH.out y i h3 (by omega) h5
     have HT2:Hid (tz+1=(p:Int)+(j+1:Nat)):=by have:=HT.out;unfold Hid;omega
     have HK2:Hid (kz+1=((j+1:Nat):Int)+1):=by have:=HK.out;unfold Hid;omega
     clear HNY HNH
     go_wp2
     go_roundw
     case rel=>exact ⟨j+1,tz+1,kz+1,ez,by omega,by omega,HT2.out,HK2.out,HCD.out,by go_num,rfl,by go_num,HB1.out,hsz1,q0,q1,HN2.out⟩
     case measure=>simp [intOf];omega
  ·have HFN:Hid (NoHit ls cs v p (min 12 (n-p))):=by
    have e:min 12 (n-p)=j:=by omega
    rw [e];exact HNH.out
   by_cases h12:j<12
   ·have h1:kz≤12:=by omega
    have h2:(n:Int)≤tz:=by omega
    clear ht hk
    go_wp2
    refine bodyPost_ret (v:=.tuple #[.int .i64 (-1),.int .i64 (-1)]) (by simp [results,Tryz.results180,go_sem]) rfl ?_
    exact ⟨HBL.out,.inr ⟨HFN.out,rfl⟩⟩
   ·have h1:12<kz:=by omega
    clear ht hk
    go_wp2
    refine bodyPost_ret (v:=.tuple #[.int .i64 (-1),.int .i64 (-1)]) (by simp [results,Tryz.results180,go_sem]) rfl ?_
    exact ⟨HBL.out,.inr ⟨HFN.out,rfl⟩⟩
def atL (zs:List Int) (L i:Nat):List Int:=((List.range i).filter (fun s=>decide (zs.getD s 0=(L:Int)))).map (fun s=>((s:Nat):Int))
def sbL (zs:List Int):Nat→List Int
 | 0=>[]
 | l+1=>sbL zs l++atL zs (l+1) zs.length
theorem atL_zero (zs:List Int) (L:Nat):atL zs L 0=[]:=by simp [atL]
theorem atL_yes (zs:List Int) (L i:Nat) (h:zs.getD i 0=(L:Int)):atL zs L (i+1)=atL zs L i++[(i:Int)]:=by
 unfold atL
 rw [List.range_succ,List.filter_append,List.map_append]
 congr 1
 rw [List.filter_cons_of_pos (by simpa using h)]
 simp
theorem atL_no (zs:List Int) (L i:Nat) (h:¬zs.getD i 0=(L:Int)):atL zs L (i+1)=atL zs L i:=by
 unfold atL
 rw [List.range_succ,List.filter_append,List.map_append]
 rw [List.filter_cons_of_neg (by simpa using h)]
 simp
theorem atL_len (zs:List Int) (L i:Nat):(atL zs L i).length≤i:=by
 unfold atL
 rw [List.length_map]
 have:=List.length_filter_le (fun s=>decide (zs.getD s 0=(L:Int))) (List.range i)
 simpa using this
theorem sbL_len (zs:List Int) (l:Nat):(sbL zs l).length≤l*zs.length:=by
 induction l with
 | zero=>simp [sbL]
 | succ l ih=>
  have:=atL_len zs (l+1) zs.length
  simp only [sbL,List.length_append,Nat.add_mul]
  omega
theorem atL_mem (zs:List Int) (L i:Nat):∀ z ∈ atL zs L i,∃ s:Nat,z=s∧s<i∧zs.getD s 0=(L:Int):=by
 intro z hz
 simp only [atL,List.mem_map,List.mem_filter,List.mem_range,decide_eq_true_eq] at hz
 obtain ⟨s,⟨h1,h2⟩,rfl⟩:=hz
 exact ⟨s,rfl,h1,h2⟩
theorem sbL_mem (zs:List Int) (l:Nat):∀ z ∈ sbL zs l,∃ s:Nat,z=s∧s<zs.length∧1≤zs.getD s 0∧zs.getD s 0≤(l:Int):=by
 induction l with
 | zero=>simp [sbL]
 | succ l ih=>
  intro z hz
  simp only [sbL,List.mem_append] at hz
  rcases hz with hz | hz
  ·obtain ⟨s,h1,h2,h3,h4⟩:=ih z hz
   exact ⟨s,h1,h2,h3,by omega⟩
  ·obtain ⟨s,h1,h2,h3⟩:=atL_mem _ _ _ z hz
   exact ⟨s,h1,h2,by omega,by omega⟩
theorem syms_any (a:Option Addr) (cap:Nat) (zs:List Int) (w:World) (hb:Ins w a zs) (hn:zs.length≤80) :
  Calls Tryz.prog 235 #[.slice a zs.length cap] w fun e w'=>
   ∃ a' cp,e=.returned (.slice a' (sbL zs 12).length cp)∧MinI w' w.heap.size w'.heap.size a' cp (sbL zs 12)∧Below w.heap.size w w':=by
 obtain ⟨i0,hi,hz0,hz1,hz2⟩:=info_parts Tryz.infoI64
 have HSB:Hid (∀ l,sbL zs (l+1)=sbL zs l++atL zs (l+1) zs.length):=fun _=>rfl
 have HSL:Hid _:=sbL_len zs
 have HAY:Hid _:=atL_yes zs
 have HAN:Hid _:=atL_no zs
 have HAZ:Hid _:=atL_zero zs
 have HAL:Hid _:=atL_len zs
 generalize hlen:zs.length=n at *
 have HL:Hid (zs.length=n):=hlen
 clear hlen
 go_enter Tryz.func235,Tryz.ntmps235
 go_wp2
 go_loopw [3,4] (fun o l wr=>∃ (M:Nat) (y:Int),y=M∧1≤M∧M≤13∧l=.int .i64 y∧OVI wr w.heap.size o (sbL zs (M-1))∧Below w.heap.size w wr) (fun _ l _=>13-(intOf l).toNat)
 case atStart=>exact ⟨1,1,rfl,by omega,by omega,rfl,OVI.nil _ _,Below.refl _ _⟩
 case round=>
  obtain ⟨M,y,hy,hM1,hM,rfl,hov,hbel⟩:=hrel
  obtain ⟨ao,co,rfl⟩:=hov.form
  have hsl:=HSL.out (M-1)
  have hlb:(M-1)*n≤12*80:=Nat.mul_le_mul (by omega) hn
  have hm:(sbL zs (M-1)).length≤960:=by omega
  have HOV:Hid (OVI wr w.heap.size (.slice ao (sbL zs (M-1)).length co) (sbL zs (M-1))):=hov
  clear hov hsl hlb
  have HMY:Hid (y=(M:Int)):=hy
  have HM1:Hid (1≤M∧M≤13):=⟨hM1,hM⟩
  have hy1:1≤y∧y≤13:=by omega
  clear hy hM1 hM
  by_cases hL12:y≤12
  ·have HB0:Hid (Below w.heap.size w wr):=hbel
   have HMS:Hid (sbL zs (M+1-1)=sbL zs (M-1)++atL zs M n):=by
    obtain ⟨l,rfl⟩:∃ l,M=l+1:=⟨M-1,by have:=HM1.out;omega⟩
    exact HSB.out l
   clear hbel
   generalize sbL zs (M-1)=q0 at *
   generalize hm0:q0.length=m0 at *
   have HM0:Hid (q0.length=m0):=hm0
   clear hm0
   go_wp2
   go_loopw [3,13] (fun o i wi=>∃ k:Nat,k≤n∧i=.int .i64 k∧OVI wi w.heap.size o (q0++atL zs M k)∧Below w.heap.size w wi) (fun _ i _=>n-(intOf i).toNat)
   case atStart=>exact ⟨0,Nat.zero_le _,rfl,by rw [HAZ.out,List.append_nil];exact HOV.out,HB0.out⟩
   case round=>
    clear HOV HB0
    obtain ⟨k,hk,rfl,hov,hbel⟩:=hrel
    by_cases hlt:k<n
    ·obtain ⟨b1,o1,rfl,hb1,hc1⟩:=(hb.below hbel nl).len_pos k (by rw [HL.out];exact hlt)
     have hs1:=hc1 k (by rw [HL.out];exact hlt)
     have g1:=getD_rngI hb.1 k
     have hal:=HAL.out M k
     have HY:=HAY.out M k
     have HN:=HAN.out M k
     obtain ⟨au,cu,rfl⟩:=hov.form
     have hsz:=hbel.size
     clear hc1
     generalize zs.getD k 0=x at *
     have hlen2:(q0++atL zs M k).length≤2000:=by rw [List.length_append,HM0.out];omega
     clear hal
     generalize hq:q0++atL zs M k=q at *
     by_cases hx:x=y
     ·have HE:Hid (q++[(k:Int)]=q0++atL zs M (k+1)):=by unfold Hid;rw [HY (hx.trans HMY.out),←List.append_assoc,hq]
      have HQR:Hid (∀ z ∈ q,-9223372036854775808≤z∧z≤9223372036854775807):=hov.2
      have hu:=hov.1
      have HOV:Hid (OVI wr w.heap.size (.slice au q.length cu) q):=hov
      clear HY HN hq hov
      subst hx
      generalize hql:q.length=m at *
      have HQL:Hid (q.length=m):=hql
      clear hql
      go_wp2_with (at_builtin;(refine wpList_append_lies _ rfl (.tmp 21) (.tmp 23) 29 rfl w.heap.size 3 i0 (.int .i64 0) 1 8 Tryz.underlying29 hi hz0 hz1 hz2 rfl (by decide) (.slice au m cu) m (q.map (Value.int .i64)) rfl (hu.alloc _) ⟨wr.heap.size,0,none⟩ 1 1 [.int .i64 (k:Nat)] rfl rfl (by intro j y hj;match j,hj with | 0,hj=>(simp at hj;subst hj;simp [Addr.add])) (by intro y hy;simp at hy;subst hy;rfl) (by omega) (by unfold maxLen;omega) (by omega) (by simp;omega) _ rfl ?_);intro g cap1 w1 hown hgrow hat hlt1)
      have HOV2:Hid (OVI w1 w.heap.size (.slice (some ⟨g,0,none⟩) (m+1) cap1) (q++[(k:Int)])):=OVI.app HQL.out HQR.out (by omega) hown
      have HB2:Hid (Below w.heap.size w w1):=app_below hbel hsz HOV.out hgrow
      clear hown hgrow hat hlt1 HOV hu hbel
      go_roundw
      case rel=>exact ⟨k+1,by omega,by go_num,by rw [←HE.out];exact HOV2.out,HB2.out⟩
      case measure=>simp [intOf];omega
     ·have HE:Hid (q=q0++atL zs M (k+1)):=by unfold Hid;rw [HN (fun h=>hx (h.trans HMY.out.symm)),hq]
      have hxx:(x == y)=false:=by simpa using hx
      have HOV:Hid _:=hov
      clear HY HN hq hov hx
      go_wp2
      go_roundw
      case rel=>exact ⟨k+1,by omega,by go_num,by rw [←HE.out];exact HOV.out,hbel⟩
      case measure=>simp [intOf];omega
    ·have hkn:k=n:=by omega
     subst hkn
     obtain ⟨au,cu,rfl⟩:=hov.form
     have HOV:Hid _:=hov
     clear hov
     go_wp2
     go_roundw
     case rel=>exact ⟨M+1,y+1,by have:=HMY.out;omega,by omega,by have:=HMY.out;omega,by go_num,by rw [HMS.out];exact HOV.out,hbel⟩
     case measure=>simp [intOf];omega
  ·have hLe:M=13:=by have:=HMY.out;have:=HM1.out;omega
   subst hLe
   have HOV2:Hid (OVI wr w.heap.size (.slice ao (sbL zs (13-1)).length co) (sbL zs 12)):=HOV.out
   clear HOV
   go_wp2
   go_ret
   obtain ⟨a',cp,he,hmm⟩:=HOV2.out.mine
   exact ⟨a',cp,congrArg Ending.returned he,hmm,hbel⟩
def zN (zs:List Int) (s:Int):Nat:=(zs.getD s.toNat 0).toNat
def cst (zs:List Int) (st:Nat × Nat × List Int) (s:Int):Nat × Nat × List Int:=
 (st.1*2 ^ (zN zs s-st.2.1)+1,zN zs s,st.2.2.set s.toNat ((st.1*2 ^ (zN zs s-st.2.1):Nat):Int))
def crun (zs l:List Int):Nat × Nat × List Int:=l.foldl (cst zs) (0,0,List.replicate zs.length 0)
theorem crun_nil (zs:List Int):crun zs []=(0,0,List.replicate zs.length 0):=rfl
theorem crun_snoc (zs l:List Int) (s:Int):crun zs (l++[s])=cst zs (crun zs l) s:=by simp [crun,List.foldl_append]
theorem crun_len (zs l:List Int):(crun zs l).2.2.length=zs.length:=by
 have:∀ (l:List Int) (st:Nat × Nat × List Int),(l.foldl (cst zs) st).2.2.length=st.2.2.length:=by
  intro l
  induction l with
  | nil=>intro st;rfl
  | cons s l ih=>intro st;rw [List.foldl_cons,ih];simp [cst]
 unfold crun
 rw [this]
 simp
def asc (zs l:List Int):Prop:=l.Pairwise (fun a b=>zN zs a≤zN zs b)
theorem asc_same (zs:List Int) (m:Nat) (l:List Int) (h:∀ a ∈ l,zN zs a=m):asc zs l:=by
 unfold asc
 induction l with
 | nil=>exact List.Pairwise.nil
 | cons a l ih=>
  refine List.Pairwise.cons (fun b hb=>?_) (ih (fun x hx=>h x (by simp [hx])))
  rw [h a (by simp),h b (by simp [hb])]
  exact Nat.le_refl _
theorem zN_at (zs:List Int) (L i:Nat):∀ a ∈ atL zs L i,zN zs a=L:=by
 intro a ha
 obtain ⟨s,rfl,_,h⟩:=atL_mem zs L i a ha
 unfold zN
 rw [Int.toNat_natCast,h]
 simp
theorem zN_sb (zs:List Int) (l:Nat):∀ a ∈ sbL zs l,zN zs a≤l:=by
 intro a ha
 obtain ⟨s,rfl,_,h1,h2⟩:=sbL_mem zs l a ha
 unfold zN
 rw [Int.toNat_natCast]
 omega
theorem asc_sb (zs:List Int) (l:Nat):asc zs (sbL zs l):=by
 induction l with
 | zero=>exact List.Pairwise.nil
 | succ l ih=>
  simp only [sbL]
  refine List.pairwise_append.2 ⟨ih,asc_same zs (l+1) _ (zN_at zs (l+1) _),fun a ha b hb=>?_⟩
  rw [zN_at zs (l+1) _ b hb]
  have:=zN_sb zs l a ha
  omega
theorem asc_part (zs:List Int) (l i:Nat):asc zs (sbL zs l++atL zs (l+1) i):=by
 refine List.pairwise_append.2 ⟨asc_sb zs l,asc_same zs (l+1) _ (zN_at zs (l+1) _),fun a ha b hb=>?_⟩
 rw [zN_at zs (l+1) _ b hb]
 have:=zN_sb zs l a ha
 omega
theorem take_snoc (l:List Int) (t:Nat) (h:t<l.length):l.take (t+1)=l.take t++[l.getD t 0]:=by
 rw [List.take_succ_eq_append_getElem h]
 simp [List.getD_eq_getElem?_getD,List.getElem?_eq_getElem h]
theorem cr_step (nx ln z t:Nat) (hl:ln≤z) (h:nx≤t*2 ^ ln):nx*2 ^ (z-ln)≤t*2 ^ z∧nx*2 ^ (z-ln)+1≤(t+1)*2 ^ z:=by
 have h1:nx*2 ^ (z-ln)≤t*2 ^ ln*2 ^ (z-ln):=Nat.mul_le_mul_right _ h
 rw [Nat.mul_assoc,←Nat.pow_add,show ln+(z-ln)=z from by omega] at h1
 have h2:0<2 ^ z:=Nat.pow_pos (by omega)
 rw [Nat.add_mul]
 omega
theorem cr_bound (zs l:List Int) (h:asc zs l) (t:Nat) (ht:t≤l.length):(crun zs (l.take t)).1≤t*2 ^ (crun zs (l.take t)).2.1∧(t<l.length→(crun zs (l.take t)).2.1≤zN zs (l.getD t 0)):=by
 induction t with
 | zero=>simp [crun_nil]
 | succ t ih=>
  obtain ⟨i1,i2⟩:=ih (by omega)
  rw [take_snoc l t (by omega),crun_snoc]
  simp only [cst]
  refine ⟨(cr_step _ _ _ t (i2 (by omega)) i1).2,fun ht2=>?_⟩
  have hp:=List.pairwise_iff_getElem.1 h t (t+1) (by omega) ht2 (by omega)
  simpa [List.getD_eq_getElem?_getD,List.getElem?_eq_getElem (show t<l.length by omega),List.getElem?_eq_getElem ht2] using hp
theorem cr_full (zs l:List Int) (h:asc zs l):(crun zs l).1≤l.length*2 ^ (crun zs l).2.1:=by
 have:=(cr_bound zs l h l.length nl).1
 rw [List.take_length] at this
 exact this
theorem cr_ln (zs l:List Int) (m:Nat) (h:∀ a ∈ l,zN zs a≤m):(crun zs l).2.1≤m:=by
 by_cases h0:l=[]
 ·subst h0;simp [crun_nil]
 ·have hl:0<l.length:=List.length_pos_iff.2 h0
  have e:l=l.take (l.length-1)++[l.getD (l.length-1) 0]:=by
   rw [←take_snoc l (l.length-1) (by omega),show l.length-1+1=l.length from by omega,List.take_length]
  rw [e,crun_snoc]
  simp only [cst]
  exact h _ (getD_mem (by omega))
def cv (zs l:List Int) (L:Nat):Nat:=(crun zs l).1*2 ^ (L-(crun zs l).2.1)
theorem cv_double (zs l:List Int) (L:Nat) (h:(crun zs l).2.1≤L):cv zs l (L+1)=cv zs l L*2:=by
 unfold cv
 rw [show L+1-(crun zs l).2.1=(L-(crun zs l).2.1)+1 from by omega,Nat.pow_succ,Nat.mul_assoc]
theorem cv_snoc (zs l:List Int) (s:Int) (L:Nat) (h:zN zs s=L):cv zs (l++[s]) L=cv zs l L+1∧(crun zs (l++[s])).2.2=(crun zs l).2.2.set s.toNat (cv zs l L:Nat):=by
 unfold cv
 rw [crun_snoc]
 simp only [cst,h]
 simp
theorem cv_bound (zs l:List Int) (L:Nat) (h:asc zs l) (hl:(crun zs l).2.1≤L) (hL:L≤12) (hn:l.length≤2000):cv zs l L≤8192000:=by
 have h1:=(cr_step _ _ L l.length hl (cr_full zs l h)).1
 have h2:2 ^ L≤2 ^ 12:=Nat.pow_le_pow_right (by omega) hL
 have h3:l.length*2 ^ L≤2000*2 ^ 12:=Nat.mul_le_mul hn h2
 unfold cv
 exact Nat.le_trans h1 (Nat.le_trans h3 (by decide))
theorem cv_nil (zs:List Int):cv zs [] 0=0:=by simp [cv,crun_nil]
structure At (zs:List Int) (M k c:Nat) (out:List Int):Prop where
 c:cv zs (sbL zs (M-1)++atL zs M k) M=c
 out:(crun zs (sbL zs (M-1)++atL zs M k)).2.2=out
theorem at_bound {zs:List Int} {M k c:Nat} {out:List Int} (h:At zs M k c out) (hM:1≤M) (hM2:M≤12) (hn:zs.length≤80) (hk:k≤zs.length):c≤8192000∧out.length=zs.length:=by
 obtain ⟨l,rfl⟩:∃ l,M=l+1:=⟨M-1,by omega⟩
 have hs:=sbL_len zs l
 have ha:=atL_len zs (l+1) k
 have hm:l*zs.length≤11*80:=Nat.mul_le_mul (by omega) hn
 refine ⟨?_,by rw [←h.out];exact crun_len zs _⟩
 rw [←h.c]
 refine cv_bound zs _ _ (asc_part zs l k) (cr_ln zs _ _ (fun a ha=>?_)) hM2 (by rw [List.length_append];simp;omega)
 rcases List.mem_append.1 ha with h1 | h1
 ·have:=zN_sb zs l a h1;omega
 ·have:=zN_at zs (l+1) k a h1;omega
theorem at_yes {zs:List Int} {M k c:Nat} {out:List Int} (h:At zs M k c out) (hz:zs.getD k 0=(M:Int)):At zs M (k+1) (c+1) (out.set k ((c:Nat):Int)):=by
 have e:sbL zs (M-1)++atL zs M (k+1)=(sbL zs (M-1)++atL zs M k)++[(k:Int)]:=by rw [atL_yes zs M k hz,List.append_assoc]
 have hzn:zN zs (k:Int)=M:=by unfold zN;rw [Int.toNat_natCast,hz];simp
 obtain ⟨s1,s2⟩:=cv_snoc zs (sbL zs (M-1)++atL zs M k) (k:Int) M hzn
 refine ⟨by rw [e,s1,h.c],?_⟩
 rw [e,s2,h.c,h.out]
 simp
theorem at_no {zs:List Int} {M k c:Nat} {out:List Int} (h:At zs M k c out) (hz:¬zs.getD k 0=(M:Int)):At zs M (k+1) c out:=by
 refine ⟨?_,?_⟩
 ·rw [atL_no zs M k hz];exact h.c
 ·rw [atL_no zs M k hz];exact h.out
theorem at_first (zs:List Int):cv zs (sbL zs 0) 0=0∧(crun zs (sbL zs 0)).2.2=List.replicate zs.length 0:=⟨cv_nil zs,rfl⟩
theorem at_start {zs:List Int} {M c:Nat} {out:List Int} (hM:1≤M) (hc:cv zs (sbL zs (M-1)) (M-1)=c) (ho:(crun zs (sbL zs (M-1))).2.2=out):At zs M 0 (c*2) out:=by
 obtain ⟨l,rfl⟩:∃ l,M=l+1:=⟨M-1,by omega⟩
 simp only [Nat.add_sub_cancel] at hc ho
 refine ⟨?_,?_⟩
 ·rw [atL_zero,List.append_nil,Nat.add_sub_cancel,cv_double zs _ l (cr_ln zs _ _ (zN_sb zs l)),hc]
 ·rw [atL_zero,List.append_nil,Nat.add_sub_cancel];exact ho
theorem at_end {zs:List Int} {M c:Nat} {out:List Int} (hM:1≤M) (h:At zs M zs.length c out):cv zs (sbL zs M) M=c∧(crun zs (sbL zs M)).2.2=out:=by
 obtain ⟨l,rfl⟩:∃ l,M=l+1:=⟨M-1,by omega⟩
 have e:sbL zs (l+1)=sbL zs (l+1-1)++atL zs (l+1) zs.length:=rfl
 rw [e]
 exact ⟨h.c,h.out⟩
theorem l2codes_any (a:Option Addr) (cap:Nat) (zs:List Int) (w:World) (hb:Ins w a zs) (hn:zs.length≤80) :
  Calls Tryz.prog 179 #[.slice a zs.length cap] w fun e w'=>
   e=.returned (.slice (some ⟨w.heap.size,0,none⟩) zs.length zs.length)∧OwI w' w.heap.size w.heap.size zs.length (crun zs (sbL zs 12)).2.2∧Below w.heap.size w w':=by
 obtain ⟨i0,hi,hz0,hz1,hz2⟩:=info_parts Tryz.infoI64
 have HAF:Hid _:=at_first zs
 have HAB:Hid _:=fun M k c out (h:At zs M k c out) h1 h2 h3=>at_bound h h1 h2 hn h3
 have HAY:Hid _:=fun M k c out (h:At zs M k c out)=>at_yes h
 have HAN:Hid _:=fun M k c out (h:At zs M k c out)=>at_no h
 have HAS:Hid _:=fun M c out h1 h2 h3=>@at_start zs M c out h1 h2 h3
 have HAE:Hid _:=fun M c out h1 h2=>@at_end zs M c out h1 h2
 generalize hlen:zs.length=n at *
 have HL:Hid (zs.length=n):=hlen
 clear hlen
 go_enter Tryz.func179,Tryz.ntmps179
 go_wp2_with (at_make;refine wpList_make_full _ rfl _ _ 29 rfl w.heap.size 3 i0 (.int .i64 0) 1 Tryz.underlying29 hi hz0 hz1 .i64 .i64 _ _ n rfl rfl rfl rfl (by rw [hz2];omega) (by unfold maxLen;omega) nl ?_;intro w1 hown hgrow)
 have h0:OwI w1 w.heap.size w.heap.size n (List.replicate n 0):=by
  refine ⟨?_,by intro z hz;simp at hz;omega⟩
  rw [made_zeroI] at hown
  simpa using hown
 have hbw:Below w.heap.size w w1:=(Below.refl _ _).grown hgrow nl (by intro k hk;cases hk)
 have H0:Hid (OwI w1 w.heap.size w.heap.size n (List.replicate n 0)):=h0
 clear h0 hown hgrow hi hz0 hz1 hz2
 go_loopw [4,5] (fun x l wr=>∃ (M c:Nat) (y:Int) (out:List Int),y=M∧1≤M∧M≤13∧l=.int .i64 y∧x=.int .i64 c∧c≤8192000∧cv zs (sbL zs (M-1)) (M-1)=c∧(crun zs (sbL zs (M-1))).2.2=out∧OwI wr w.heap.size w.heap.size n out∧Below w.heap.size w wr) (fun _ l _=>13-(intOf l).toNat)
 case atStart=>exact ⟨1,0,1,List.replicate n 0,rfl,by omega,by omega,rfl,rfl,by omega,HAF.out.1,HAF.out.2,H0.out,hbw⟩
 case round=>
  clear H0 hbw
  obtain ⟨M,c,y,out,hy,hM1,hM,rfl,rfl,hc,hcv,hout,hown,hbel⟩:=hrel
  have HMY:Hid (y=(M:Int)):=hy
  have HM1:Hid (1≤M∧M≤13):=⟨hM1,hM⟩
  have HCV:Hid (cv zs (sbL zs (M-1)) (M-1)=c∧(crun zs (sbL zs (M-1))).2.2=out):=⟨hcv,hout⟩
  have HO:Hid (OwI wr w.heap.size w.heap.size n out):=hown
  have hy1:1≤y∧y≤13:=by omega
  clear hy hM1 hM hcv hout hown
  by_cases hL12:y≤12
  ·have HAT:Hid (At zs M 0 (c*2) out):=HAS.out M c out HM1.out.1 HCV.out.1 HCV.out.2
   have hM12:M≤12:=by have:=HMY.out;omega
   have HM12:Hid (M≤12):=hM12
   clear hM12 HCV
   have HBL:Hid (Below w.heap.size w wr):=hbel
   clear hbel
   go_wp2
   go_loopw [4,6] (fun x i wi=>∃ (k d:Nat) (o2:List Int),k≤n∧i=.int .i64 k∧x=.int .i64 d∧At zs M k d o2∧OwI wi w.heap.size w.heap.size n o2∧Below w.heap.size w wi) (fun _ i _=>n-(intOf i).toNat)
   case atStart=>exact ⟨0,c*2,out,Nat.zero_le _,rfl,by go_num,HAT.out,HO.out,HBL.out⟩
   case round=>
    clear HAT HO HBL
    obtain ⟨k,d,o2,hk,rfl,rfl,hat,hown,hbel⟩:=hrel
    have HAT:Hid (At zs M k d o2):=hat
    have HO:Hid (OwI wr w.heap.size w.heap.size n o2):=hown
    obtain ⟨hd,hol⟩:=HAB.out M k d o2 hat HM1.out.1 HM12.out (by omega)
    clear hat hown
    by_cases hlt:k<n
    ·obtain ⟨b1,o1,rfl,hb1,hc1⟩:=(hb.below hbel nl).len_pos k (by rw [HL.out];exact hlt)
     have hs1:=hc1 k (by rw [HL.out];exact hlt)
     have g1:=getD_rngI hb.1 k
     have HY:=HAY.out M k d o2 HAT.out
     have HN:=HAN.out M k d o2 HAT.out
     clear hc1
     generalize zs.getD k 0=x at *
     by_cases hx:x=y
     ·have HA2:Hid (At zs M (k+1) (d+1) (o2.set k ((d:Nat):Int))):=HY (hx.trans HMY.out)
      subst hx
      have hdst:=HO.out.cell k (by rw [hol];exact hlt)
      have hfz:=HO.out.frozen k
      have hdr:-9223372036854775808≤((d:Nat):Int)∧((d:Nat):Int)≤9223372036854775807:=by omega
      have HR:Hid (OwI (wr.setCell ⟨w.heap.size,k,none⟩ (.int .i64 (d:Nat))) w.heap.size w.heap.size n (o2.set k ((d:Nat):Int))):=HO.out.store k ((d:Nat):Int) hdr
      have HB:Hid (Below w.heap.size w (wr.setCell ⟨w.heap.size,k,none⟩ (.int .i64 (d:Nat)))):=hbel.setCell (p:=⟨w.heap.size,k,none⟩) nl _
      clear HY HN HO hbel hol hdr
      generalize o2.getD k 0=old at *
      go_wp2
      go_roundw
      case rel=>exact ⟨k+1,d+1,_,by omega,by go_num,by go_num,HA2.out,by simpa using HR.out,by simpa using HB.out⟩
      case measure=>simp [intOf];omega
     ·have HA2:Hid (At zs M (k+1) d o2):=HN (fun h=>hx (h.trans HMY.out.symm))
      have hxx:(x == y)=false:=by simpa using hx
      clear HY HN hx hol
      go_wp2
      go_roundw
      case rel=>exact ⟨k+1,d,o2,by omega,by go_num,rfl,HA2.out,HO.out,hbel⟩
      case measure=>simp [intOf];omega
    ·have hkn:k=n:=by omega
     subst hkn
     have HE:=HAE.out M d o2 HM1.out.1 HAT.out
     have HE1:Hid _:=HE
     clear HE hol
     go_wp2
     go_roundw
     case rel=>exact ⟨M+1,d,y+1,o2,by have:=HMY.out;omega,by omega,by have:=HM12.out;omega,by go_num,rfl,hd,HE1.out.1,HE1.out.2,HO.out,hbel⟩
     case measure=>simp [intOf];omega
  ·have hLe:M=13:=by have:=HMY.out;have:=HM1.out;omega
   subst hLe
   have HA:Hid (OwI wr w.heap.size w.heap.size n (crun zs (sbL zs 12)).2.2):=by have h:(crun zs (sbL zs 12)).2.2=out:=HCV.out.2;rw [h];exact HO.out
   clear HO HCV
   go_wp2
   go_ret
   exact ⟨rfl,HA.out,hbel⟩
theorem OVI.stay {S:Nat→Prop} {w w':World} {B:Nat} {v:Value} {zs:List Int} (h:OVI w B v zs) (ho:Only S w w') (hs:∀ k,B≤k→¬S k):OVI w' B v zs:=by
 refine ⟨⟨h.1.1,?_⟩,h.2⟩
 rcases h.1.2 with h' | ⟨g,cap,cur,h',hg,hh,r⟩
 ·exact .inl h'
 ·exact .inr ⟨g,cap,cur,h',hg,(ho.block g (Array.getElem?_eq_some_iff.1 hh).1 (hs g hg)).trans hh,r⟩
theorem OVI.weak {w:World} {B B':Nat} {v:Value} {zs:List Int} (h:OVI w B v zs) (hB:B'≤B):OVI w B' v zs:=by
 refine ⟨⟨h.1.1,?_⟩,h.2⟩
 rcases h.1.2 with h' | ⟨g,cap,cur,h',hg,r⟩
 ·exact .inl h'
 ·exact .inr ⟨g,cap,cur,h',by omega,r⟩
def One (ls cs:List Int) (n v p i k:Nat):Prop:=1≤k∧k≤12∧p+k≤n∧i<ls.length∧Hit ls cs v p k i∧(∀ j,j<i→¬Hit ls cs v p k j)∧NoHit ls cs v p (k-1)
inductive Reads (ls cs:List Int) (n v p:Nat):List Int→Nat→Prop
 | nil:Reads ls cs n v p [] p
 | snoc {q:List Int} {e i k:Nat}:Reads ls cs n v p q e→One ls cs n v e i k→Reads ls cs n v p (q++[(i:Int)]) (e+k)
theorem l2get_any (a:Option Addr) (ca:Nat) (ls:List Int) (x:Option Addr) (cx:Nat) (zs:List Int) (n v p N:Nat) (w:World) (ha:Ins w a ls) (hx:Byt w x zs) (hz:zs=enc n v) (hn:n≤4104) (hp:p≤n) (hl:ls.length≤80) (hN:N≤300) :
  Calls Tryz.prog 158 #[.slice a ls.length ca,.agg #[.slice x zs.length cx,.int .i64 n],.int .i64 p,.int .i64 N] w fun e w'=>Below w.heap.size w w' ∧
   ((∃ q E u, q.length = N ∧ Reads ls (crun ls (sbL ls 12)).2.2 n v p q E ∧ OVI w' w.heap.size u q ∧ e = .returned (.tuple #[u, .int .i64 (E : Nat), .bool true])) ∨
    (∃ q E,q.length<N∧Reads ls (crun ls (sbL ls 12)).2.2 n v p q E∧NoHit ls (crun ls (sbL ls 12)).2.2 v E (min 12 (n-E))∧e=.returned (.tuple #[.slice none 0 0,.int .i64 (-1),.bool false]))):=by
 obtain ⟨i0,hi,hz0,hz1,hz2⟩:=info_parts Tryz.infoI64
 have hw:Below w.heap.size w (w.alloc (Obj.cells #[.slice x zs.length cx,.int .i64 n] 155)):=bAw
 have r0:(w.alloc (Obj.cells #[.slice x zs.length cx,.int .i64 n] 155)).cell? ⟨w.heap.size,0,none⟩=some (.slice x zs.length cx):=by simp
 have r1:(w.alloc (Obj.cells #[.slice x zs.length cx,.int .i64 n] 155)).cell? ⟨w.heap.size,1,none⟩=some (.int .i64 n):=by simp
 have HSZ:Hid (w.heap.size<(w.alloc (Obj.cells #[.slice x zs.length cx,.int .i64 n] 155)).heap.size):=by simp [Hid]
 have HLC:=l2codes_any a ca ls _ (ha.below hw nl) hl
 have HCL:Hid _:=crun_len ls (sbL ls 12)
 have HZ:Hid (zs=enc n v):=hz
 clear hz
 go_enter Tryz.func158,Tryz.ntmps158
 go_wp2_with fail
 generalize w.alloc (Obj.cells #[.slice x zs.length cx,.int .i64 n] 155)=W at *
 refine HLC.mono ?_
 clear HLC
 rintro e w1 ⟨rfl,hc1,hb1⟩
 have hbw1:Below w.heap.size w w1:=hw.trans (hb1.mono (Nat.le_of_lt HSZ.out))
 have HBW:Hid (Below w.heap.size w w1):=hbw1
 have HA:Hid (Ins w1 a ls):=ha.below hbw1 nl
 have HX:Hid (Byt w1 x zs):=hx.below hbw1 nl
 have HCC:Hid (Ins w1 (some ⟨W.heap.size,0,none⟩) (crun ls (sbL ls 12)).2.2):=hc1.byt
 have HR:Hid (w1.cell? ⟨w.heap.size,0,none⟩=some (.slice x zs.length cx)∧w1.cell? ⟨w.heap.size,1,none⟩=some (.int .i64 n)):=⟨keep hb1 HSZ.out r0,keep hb1 HSZ.out r1⟩
 have HS1:Hid (w.heap.size<w1.heap.size):=by have:=HSZ.out;have:=hb1.size;unfold Hid;omega
 clear hw r0 r1 HSZ hc1 hb1 hbw1 ha hx
 generalize W.heap.size=gc at *
 generalize hcs0:(crun ls (sbL ls 12)).2.2=cs at *
 have HCSE:Hid ((crun ls (sbL ls 12)).2.2=cs):=hcs0
 clear hcs0
 generalize hB:w1.heap.size=B at *
 have HB:Hid (w1.heap.size=B):=hB
 clear hB
 go_wp2
 go_loopw [2,12,13] (fun t o i wr=>∃ (k:Nat) (q:List Int) (P:Nat),k≤N∧i=.int .i64 k∧t=.int .i64 P∧P≤n∧OVI wr B o q∧q.length=k∧Reads ls cs n v p q P∧Below B w1 wr) (fun _ _ i _=>N-(intOf i).toNat)
 case atStart=>exact ⟨0,[],p,Nat.zero_le _,rfl,rfl,hp,OVI.nil _ _,rfl,.nil,Below.refl _ _⟩
 case round=>
  obtain ⟨k,q,P,hk,rfl,rfl,hP,hov,hql,hrd,hbel⟩:=hrel
  obtain ⟨au,cu,rfl⟩:=hov.form
  have HQL:Hid (q.length=k):=hql
  rw [hql] at hov ⊢
  have HOV:Hid (OVI wr B (.slice au k cu) q):=hov
  have HRD:Hid (Reads ls cs n v p q P):=hrd
  have HBL:Hid (Below B w1 wr):=hbel
  have c0:=keep hbel HS1.out HR.out.1
  have c1:=keep hbel HS1.out HR.out.2
  have HBB:Hid (Below w.heap.size w wr):=HBW.out.trans (hbel.mono (Nat.le_of_lt HS1.out))
  have HZW:Hid (B≤wr.heap.size):=by have:=hbel.size;have:=HB.out;unfold Hid;omega
  clear hov hql hrd hbel
  by_cases hlt:k<N
  ·have HONE:=l2one_any a ca ls (some ⟨gc,0,none⟩) ls.length cs x cx zs n v P wr (HA.out.below HBL.out (by rw [HB.out];exact Nat.le_refl _)) (HCC.out.below HBL.out (by rw [HB.out];exact Nat.le_refl _)) (HX.out.below HBL.out (by rw [HB.out];exact Nat.le_refl _)) HZ.out hn hP hl HCL.out
   go_wp2_with fail
   refine HONE.mono ?_
   clear HONE
   rintro e w2 ⟨hb2,⟨m,i,g1,g2,g3,g4,g5,g6,g7,rfl⟩ | ⟨hno,rfl⟩⟩
   ·have HB2:Hid (Below B w1 w2):=HBL.out.trans (hb2.mono HZW.out)
    have HOV2:Hid (OVI w2 B (.slice au k cu) q):=HOV.out.stay (Only.ofBelow (S:=fun _=>False) hb2 nl) (by simp)
    have HRD2:Hid (Reads ls cs n v p (q++[(i:Int)]) (P+m)):=.snoc HRD.out ⟨g1,g2,g3,g4,g5,g6,g7⟩
    have hz3:B≤w2.heap.size:=Nat.le_trans HZW.out hb2.size
    have hu:w2.ownsRow B 3 1 (.slice au k cu) k (q.map (Value.int .i64)):=by have:=HOV2.out.1;rw [HQL.out] at this;exact this
    clear hb2 g5 g6 g7 HRD HOV HBL c0 c1
    generalize P+m=P2 at *
    generalize hiz:(i:Int)=iz at *
    have hir:0≤iz∧iz≤80:=by omega
    clear hiz g1 g2 g4
    have HN3:Hid (k+1≤300):=by unfold Hid;omega
    have hk3:k+1≤300:=HN3.out
    clear hN hn hl hp hP
    go_wp2_with (at_builtin;(refine wpList_append_lies _ rfl (.tmp 33) (.tmp 35) 29 rfl B 3 i0 (.int .i64 0) 1 8 Tryz.underlying29 hi hz0 hz1 hz2 rfl (by decide) (.slice au k cu) k (q.map (Value.int .i64)) rfl (hu.alloc _) ⟨w2.heap.size,0,none⟩ 1 1 [.int .i64 iz] rfl rfl (by intro j y hj;match j,hj with | 0,hj=>(simp at hj;subst hj;simp [Addr.add])) (by intro y hy;simp at hy;subst hy;rfl) (by have:=HN3.out;omega) (by have:=HN3.out;unfold maxLen;omega) (by have:=HN3.out;omega) (by simp;omega) _ rfl ?_);intro g cap1 w4 hown hgrow hat hlt1)
    have HOV4:Hid (OVI w4 B (.slice (some ⟨g,0,none⟩) (k+1) cap1) (q++[iz])):=OVI.app HQL.out HOV2.out.2 (by omega) hown
    have HB4:Hid (Below B w1 w4):=app_below HB2.out hz3 HOV2.out hgrow
    clear hown hgrow hat hlt1 HOV2 HB2 hu
    go_wp2
    go_roundw
    case rel=>exact ⟨k+1,q++[iz],P2,by omega,by go_num,rfl,g3,HOV4.out,by rw [List.length_append,HQL.out];rfl,HRD2.out,HB4.out⟩
    case measure=>simp [intOf];omega
   ·have HB2:Hid (Below w.heap.size w w2):=HBB.out.trans (hb2.mono (by have:=HZW.out;have:=HS1.out;omega))
    have HNO:Hid (NoHit ls cs v P (min 12 (n-P))):=hno
    clear hb2 hno HOV HBL c0 c1
    go_wp2
    refine bodyPost_ret (v:=.tuple #[.slice none 0 0,.int .i64 (-1),.bool false]) (by simp [results,Tryz.results158,go_sem]) rfl ?_
    rw [HCSE.out]
    exact ⟨HB2.out,.inr ⟨q,P,by rw [HQL.out];exact hlt,HRD.out,HNO.out,rfl⟩⟩
  ·have hkn:k=N:=by omega
   subst hkn
   go_wp2
   refine bodyPost_ret (v:=.tuple #[.slice au k cu,.int .i64 (P:Nat),.bool true]) (by simp [results,Tryz.results158,go_sem]) rfl ?_
   rw [HCSE.out]
   exact ⟨HBB.out,.inl ⟨q,P,_,HQL.out,HRD.out,HOV.out.weak (Nat.le_of_lt HS1.out),rfl⟩⟩
end Go.Proofs.YtaibkchbkedjnaaGreatDoor
namespace Go.Proofs.YtaibkchbkedjnaaGreatDoor
set_option linter.unusedVariables false
theorem One.no {ls cs:List Int} {n v p i k:Nat} (h:One ls cs n v p i k) (hn:NoHit ls cs v p (min 12 (n-p))):False:=by
 obtain ⟨h1,h2,h3,h4,h5,_⟩:=h
 exact hn k i h1 (by omega) h4 h5
theorem One.unique {ls cs:List Int} {n v p i k i' k':Nat} (h:One ls cs n v p i k) (h':One ls cs n v p i' k'):i=i'∧k=k':=by
 obtain ⟨h1,h2,h3,h4,h5,h6,h7⟩:=h
 obtain ⟨g1,g2,g3,g4,g5,g6,g7⟩:=h'
 have hk:k=k':=by
  rcases Nat.lt_trichotomy k k' with hh | hh | hh
  ·exact absurd h5 (g7 k i h1 (by omega) h4)
  ·exact hh
  ·exact absurd g5 (h7 k' i' g1 (by omega) g4)
 subst hk
 refine ⟨?_,rfl⟩
 rcases Nat.lt_trichotomy i i' with hh | hh | hh
 ·exact absurd h5 (g6 i hh)
 ·exact hh
 ·exact absurd g5 (h6 i' hh)
theorem Reads.unique {ls cs:List Int} {n v p:Nat} {q:List Int} {E:Nat} (h:Reads ls cs n v p q E):∀ {q':List Int} {E':Nat},Reads ls cs n v p q' E'→q.length=q'.length→q=q'∧E=E':=by
 induction h with
 | nil=>
  intro q' E' h' hl
  cases h' with
  | nil=>exact ⟨rfl,rfl⟩
  | snoc h1 h2=>simp at hl
 | @snoc q e i k h1 h2 ih=>
  intro q' E' h' hl
  cases h' with
  | nil=>simp at hl
  | @snoc q2 e2 i2 k2 g1 g2=>
   obtain ⟨rfl,rfl⟩:=ih g1 (by simpa using hl)
   obtain ⟨rfl,rfl⟩:=h2.unique g2
   exact ⟨rfl,rfl⟩
theorem Reads.cut {ls cs:List Int} {n v p:Nat} {q:List Int} {E:Nat} (h:Reads ls cs n v p q E):∀ m,m<q.length→∃ e i k,Reads ls cs n v p (q.take m) e∧One ls cs n v e i k:=by
 induction h with
 | nil=>intro m hm;simp at hm
 | @snoc q e i k h1 h2 ih=>
  intro m hm
  by_cases hh:m<q.length
  ·obtain ⟨e',i',k',a,b⟩:=ih m hh
   exact ⟨e',i',k',by rw [List.take_append_of_le_length (by omega)];exact a,b⟩
  ·have:m=q.length:=by simp at hm;omega
   subst this
   exact ⟨e,i,k,by simpa using h1,h2⟩
theorem Reads.stuck {ls cs:List Int} {n v p:Nat} {q:List Int} {E:Nat} (h:Reads ls cs n v p q E) {q':List Int} {E':Nat} (h':Reads ls cs n v p q' E') (hl:q'.length<q.length) (hn:NoHit ls cs v E' (min 12 (n-E'))):False:=by
 obtain ⟨e,i,k,a,b⟩:=h.cut q'.length hl
 obtain ⟨-,rfl⟩:=a.unique h' (by simp;omega)
 exact b.no hn
theorem Reads.le {ls cs:List Int} {n v p:Nat} {q:List Int} {E:Nat} (h:Reads ls cs n v p q E) (hp:p≤n):E≤n:=by
 induction h with
 | nil=>exact hp
 | snoc h1 h2 ih=>exact h2.2.2.1
end Go.Proofs.YtaibkchbkedjnaaGreatDoor
namespace Go.Proofs.YtaibkchbkedjnaaGreatDoor
set_option linter.unusedVariables false
theorem atL_split (zs:List Int) (L k n:Nat) (h:k≤n):∃ r,atL zs L n=atL zs L k++r∧∀ t ∈ r,(k:Int)≤t:=by
 induction n with
 | zero => obtain rfl : k = 0 := by omega
           exact ⟨[],by simp,by simp⟩
 | succ n ih=>
  by_cases hk:k≤n
  ·obtain ⟨r,h1,h2⟩:=ih hk
   by_cases hz:zs.getD n 0=(L:Int)
   ·refine ⟨r++[(n:Int)],by rw [atL_yes zs L n hz,h1,List.append_assoc],fun t ht=>?_⟩
    rcases List.mem_append.1 ht with h | h
    ·exact h2 t h
    ·simp at h;omega
   ·exact ⟨r,by rw [atL_no zs L n hz];exact h1,h2⟩
  ·obtain rfl:k=n+1:=by omega
   exact ⟨[],by simp,by simp⟩
theorem atL_mono (zs:List Int) (L k n:Nat) (h:k≤n):(atL zs L k).length≤(atL zs L n).length:=by
 obtain ⟨r,h1,_⟩:=atL_split zs L k n h
 rw [h1,List.length_append]
 omega
theorem sbL_split (zs:List Int) (l m:Nat) (h:l≤m):∃ r,sbL zs m=sbL zs l++r∧∀ t ∈ r,∃ s:Nat,t=s∧(l:Int)<zs.getD s 0:=by
 induction m with
 | zero => obtain rfl : l = 0 := by omega
           exact ⟨[],by simp,by simp⟩
 | succ m ih=>
  by_cases hk:l≤m
  ·obtain ⟨r,h1,h2⟩:=ih hk
   refine ⟨r++atL zs (m+1) zs.length,by simp only [sbL];rw [h1,List.append_assoc],fun t ht=>?_⟩
   rcases List.mem_append.1 ht with h | h
   ·exact h2 t h
   ·obtain ⟨s,g1,g2,g3⟩:=atL_mem _ _ _ t h
    exact ⟨s,g1,by omega⟩
  ·obtain rfl:l=m+1:=by omega
   exact ⟨[],by simp,by simp⟩
theorem cst_keep (zs:List Int) (s:Nat) (l:List Int):∀ st:Nat × Nat × List Int,(∀ t ∈ l,t.toNat≠s)→(l.foldl (cst zs) st).2.2.getD s 0=st.2.2.getD s 0:=by
 induction l with
 | nil=>intro st _;rfl
 | cons t l ih=>
  intro st h
  rw [List.foldl_cons,ih _ (fun x hx=>h x (by simp [hx]))]
  have:=h t (by simp)
  simp only [cst,List.getD_eq_getElem?_getD,List.getElem?_set_ne this]
theorem crun_keep (zs l r:List Int) (s:Nat) (h:∀ t ∈ r,t.toNat≠s):(crun zs (l++r)).2.2.getD s 0=(crun zs l).2.2.getD s 0:=by
 unfold crun
 rw [List.foldl_append]
 exact cst_keep zs s r _ h
def fcd (zs:List Int) (M:Nat):Nat:=cv zs (sbL zs (M-1)) M
theorem cv_run (zs:List Int) (M k:Nat):cv zs (sbL zs (M-1)++atL zs M k) M=fcd zs M+(atL zs M k).length:=by
 induction k with
 | zero=>simp [atL_zero,fcd]
 | succ k ih=>
  by_cases hz:zs.getD k 0=(M:Int)
  ·have hzn:zN zs (k:Int)=M:=by unfold zN;rw [Int.toNat_natCast,hz];simp
   rw [atL_yes zs M k hz,←List.append_assoc,(cv_snoc zs _ (k:Int) M hzn).1,ih]
   simp
   omega
  ·rw [atL_no zs M k hz];exact ih
theorem code_at (zs:List Int) (M s:Nat) (h1:1≤M) (h2:M≤12) (hs:s<zs.length) (hz:zs.getD s 0=(M:Int)):(crun zs (sbL zs 12)).2.2.getD s 0=((fcd zs M+(atL zs M s).length:Nat):Int):=by
 obtain ⟨r,e1,m1⟩:=sbL_split zs M 12 h2
 obtain ⟨r2,e2,m2⟩:=atL_split zs M (s+1) zs.length hs
 have e3:sbL zs M=sbL zs (M-1)++atL zs M zs.length:=by
  obtain ⟨l,rfl⟩:∃ l,M=l+1:=⟨M-1,by omega⟩
  rfl
 have e4:sbL zs 12=((sbL zs (M-1)++atL zs M s)++[(s:Int)])++(r2++r):=by
  rw [e1,e3,e2,atL_yes zs M s hz]
  simp
 have hzn:zN zs (s:Int)=M:=by unfold zN;rw [Int.toNat_natCast,hz];simp
 rw [e4,crun_keep,(cv_snoc zs _ (s:Int) M hzn).2,cv_run]
 ·rw [Int.toNat_natCast,List.getD_eq_getElem?_getD,List.getElem?_set_self (by rw [crun_len];exact hs)]
  rfl
 ·intro t ht
  rcases List.mem_append.1 ht with h | h
  ·have:=m2 t h;omega
  ·obtain ⟨y,rfl,hy⟩:=m1 t h
   rw [Int.toNat_natCast]
   rintro rfl
   omega
theorem at_rank (zs:List Int) (M:Nat):∀ n j,j<(atL zs M n).length→∃ s:Nat,(atL zs M n).getD j 0=s∧s<n∧zs.getD s 0=(M:Int)∧(atL zs M s).length=j:=by
 intro n
 induction n with
 | zero=>intro j hj;simp [atL_zero] at hj
 | succ n ih=>
  intro j hj
  by_cases hz:zs.getD n 0=(M:Int)
  ·rw [atL_yes zs M n hz] at hj ⊢
   by_cases hjn:j<(atL zs M n).length
   ·obtain ⟨s,g1,g2,g3,g4⟩:=ih j hjn
    refine ⟨s,?_,by omega,g3,g4⟩
    rw [List.getD_eq_getElem?_getD,List.getElem?_append_left hjn,←List.getD_eq_getElem?_getD]
    exact g1
   ·have hje:j=(atL zs M n).length:=by simp at hj;omega
    refine ⟨n,?_,by omega,hz,hje.symm⟩
    rw [hje]
    simp [List.getD_eq_getElem?_getD]
  ·rw [atL_no zs M n hz] at hj ⊢
   obtain ⟨s,g1,g2,g3,g4⟩:=ih j hj
   exact ⟨s,g1,by omega,g3,g4⟩
structure Sy (ls:List Int) (v p k:Nat) (c f a:Nat):Prop where
 hc:c=cd v p k
 hf:f=cv ls (sbL ls k) k
 ha:a=(sbL ls k).length
 le:f≤c
 no:NoHit ls (crun ls (sbL ls 12)).2.2 v p k
theorem sy_zero (ls:List Int) (v p:Nat):Sy ls v p 0 0 0 0:=⟨rfl,(cv_nil ls).symm,rfl,Nat.le_refl _,fun j i h1 h2=>by omega⟩
theorem fcd_succ (ls:List Int) (k:Nat):fcd ls (k+1)=2*cv ls (sbL ls k) k:=by
 unfold fcd
 rw [Nat.add_sub_cancel,cv_double ls _ k (cr_ln ls _ _ (zN_sb ls k)),Nat.mul_comm]
theorem cv_full (ls:List Int) (k:Nat):cv ls (sbL ls (k+1)) (k+1)=fcd ls (k+1)+(atL ls (k+1) ls.length).length:=cv_run ls (k+1) ls.length
theorem sy_next {ls:List Int} {v p k c f a b:Nat} (h:Sy ls v p k c f a) (hk:k<12) (hb:b=v / 2 ^ (p+k) % 2) (hn:¬2*c+b-2*f<(atL ls (k+1) ls.length).length) :
  Sy ls v p (k+1) (2*c+b) (2*f+(atL ls (k+1) ls.length).length) (a+(atL ls (k+1) ls.length).length):=by
 have hc:2*c+b=cd v p (k+1):=by simp only [cd];rw [hb,h.hc]
 have hf:2*f+(atL ls (k+1) ls.length).length=cv ls (sbL ls (k+1)) (k+1):=by rw [cv_full,fcd_succ,←h.hf]
 have hle:=h.le
 refine ⟨hc,hf,by rw [h.ha];simp only [sbL,List.length_append],by omega,fun j i h1 h2 h3 hh=>?_⟩
 by_cases hj:j=k+1
 ·subst hj
  obtain ⟨g1,g2⟩:=hh
  have g3:=code_at ls (k+1) i h1 (by omega) h3 g1
  rw [g3] at g2
  have g4:=atL_yes ls (k+1) i g1
  have g5:=atL_mono ls (k+1) (i+1) ls.length h3
  rw [g4,List.length_append] at g5
  simp only [List.length_singleton] at g5
  have g6:=fcd_succ ls k
  rw [←h.hf] at g6
  omega
 ·exact h.no j i h1 (by omega) h3 hh
theorem sy_hit {ls:List Int} {n v p k c f a b:Nat} (h:Sy ls v p k c f a) (hk:k<12) (hp:p+k<n) (hb:b=v / 2 ^ (p+k) % 2) (hn:2*c+b-2*f<(atL ls (k+1) ls.length).length) :
  ∃ s:Nat,(sbL ls 12).getD (a+(2*c+b-2*f)) 0=s∧s<ls.length∧a+(2*c+b-2*f)<(sbL ls 12).length∧One ls (crun ls (sbL ls 12)).2.2 n v p s (k+1):=by
 have hc:2*c+b=cd v p (k+1):=by simp only [cd];rw [hb,h.hc]
 have hle:=h.le
 have g6:=fcd_succ ls k
 rw [←h.hf] at g6
 obtain ⟨s,g1,g2,g3,g4⟩:=at_rank ls (k+1) ls.length _ hn
 obtain ⟨r,e1,_⟩:=sbL_split ls (k+1) 12 hk
 have e2:sbL ls 12=sbL ls k++(atL ls (k+1) ls.length++r):=by rw [e1];simp only [sbL];rw [List.append_assoc]
 have hca:=code_at ls (k+1) s (by omega) (by omega) g2 g3
 refine ⟨s,?_,g2,?_,by omega,by omega,by omega,g2,⟨g3,?_⟩,?_,h.no⟩
 ·rw [e2,h.ha,List.getD_eq_getElem?_getD,List.getElem?_append_right (by omega),Nat.add_sub_cancel_left,List.getElem?_append_left hn,←List.getD_eq_getElem?_getD]
  exact g1
 ·rw [e2,h.ha]
  simp only [List.length_append]
  omega
 ·rw [hca,←hc]
  omega
 ·rintro j hj ⟨q1,q2⟩
  have q3:=code_at ls (k+1) j (by omega) (by omega) (by omega) q1
  rw [q3] at q2
  have q4:=atL_yes ls (k+1) j q1
  have q5:=atL_mono ls (k+1) (j+1) s hj
  rw [q4,List.length_append] at q5
  simp only [List.length_singleton] at q5
  omega
theorem sy_bound {ls:List Int} {v p k c f a:Nat} (h:Sy ls v p k c f a) (hk:k≤12) (hl:ls.length≤80):c≤4096∧f≤4096∧a≤960:=by
 have h1:=cd_lt v p k
 have h2:2 ^ k≤2 ^ 12:=Nat.pow_le_pow_right (by omega) hk
 have h3:=sbL_len ls k
 have h4:k*ls.length≤12*80:=Nat.mul_le_mul hk hl
 have h5:=h.hc;have h6:=h.le;have h7:=h.ha
 omega
end Go.Proofs.YtaibkchbkedjnaaGreatDoor
namespace Go.Proofs.YtaibkchbkedjnaaGreatDoor
open Go.RowKit
set_option linter.unusedVariables false
def hst (zs:List Int) (ms:List Int) (s:Int):List Int:=ms.set (zN zs s) (ms.getD (zN zs s) 0+1)
def hm (zs l:List Int):List Int:=l.foldl (hst zs) (List.replicate 13 0)
theorem hm_snoc (zs l:List Int) (s:Int):hm zs (l++[s])=hst zs (hm zs l) s:=by simp [hm,List.foldl_append]
theorem hm_len (zs l:List Int):(hm zs l).length=13:=by
 have:∀ (l ms:List Int),(l.foldl (hst zs) ms).length=ms.length:=by
  intro l
  induction l with
  | nil=>intro ms;rfl
  | cons s l ih=>intro ms;rw [List.foldl_cons,ih];simp [hst]
 unfold hm
 rw [this]
 simp
theorem hm_get (zs l:List Int) (j:Nat) (hj:j<13):(hm zs l).getD j 0=((l.countP (fun s=>decide (zN zs s=j)):Nat):Int):=by
 have:∀ (l ms:List Int),ms.length=13→(l.foldl (hst zs) ms).getD j 0=ms.getD j 0+((l.countP (fun s=>decide (zN zs s=j)):Nat):Int):=by
  intro l
  induction l with
  | nil=>intro ms _;simp
  | cons s l ih=>
   intro ms hm
   rw [List.foldl_cons,ih _ (by simp [hst,hm]),List.countP_cons]
   simp only [hst]
   by_cases h:zN zs s=j
   ·rw [h]
    rw [show (ms.set j (ms.getD j 0+1)).getD j 0=ms.getD j 0+1 from by rw [List.getD_eq_getElem?_getD,List.getElem?_set_self (by omega)];rfl]
    simp
    omega
   ·rw [show (ms.set (zN zs s) (ms.getD (zN zs s) 0+1)).getD j 0=ms.getD j 0 from by simp only [List.getD_eq_getElem?_getD,List.getElem?_set_ne h]]
    simp [h]
 unfold hm
 rw [this l _ (by simp)]
 have e:(List.replicate 13 (0:Int)).getD j 0=0:=by
  rw [List.getD_eq_getElem?_getD,List.getElem?_replicate];split <;> rfl
 rw [e]
 simp
theorem hm_at (zs:List Int) (j:Nat) (h1:1≤j) (h2:j≤12):(hm zs (sbL zs 12)).getD j 0=(((atL zs j zs.length).length:Nat):Int):=by
 rw [hm_get zs _ j (by omega)]
 obtain ⟨r,e1,m1⟩:=sbL_split zs j 12 h2
 have e3:sbL zs j=sbL zs (j-1)++atL zs j zs.length:=by
  obtain ⟨l,rfl⟩:∃ l,j=l+1:=⟨j-1,by omega⟩
  rfl
 rw [e1,e3,List.countP_append,List.countP_append]
 have c1:(sbL zs (j-1)).countP (fun s=>decide (zN zs s=j))=0:=List.countP_eq_zero.2 (fun a ha=>by have:=zN_sb zs (j-1) a ha;simp;omega)
 have c2:(atL zs j zs.length).countP (fun s=>decide (zN zs s=j))=(atL zs j zs.length).length:=List.countP_eq_length.2 (fun a ha=>by have:=zN_at zs j zs.length a ha;simpa using this)
 have c3:r.countP (fun s=>decide (zN zs s=j))=0:=List.countP_eq_zero.2 (fun a ha=>by
  obtain ⟨s,rfl,hs⟩:=m1 a ha
  have hh:zN zs ((s:Nat):Int)≠j:=by
   unfold zN
   rw [Int.toNat_natCast]
   omega
  simpa using hh)
 rw [c1,c2,c3]
 simp
structure HR (w:World) (H R:Nat) (ms:List Int) (ao:Option Addr) (ol co:Nat):Prop where
 h:w.heap[H]?=some (.cells (Value.pointer (some ⟨R,0,none⟩) :: (ms.map (Value.int .i64)++[.slice ao ol co])).toArray 303 (0,0))
 l:ms.length=13
theorem HR.c0 {w:World} {H R:Nat} {ms:List Int} {ao:Option Addr} {ol co:Nat} (h:HR w H R ms ao ol co):w.cell? ⟨H,0,none⟩=some (.pointer (some ⟨R,0,none⟩)):=cellRR h.h (by simp)
theorem HR.cm {w:World} {H R:Nat} {ms:List Int} {ao:Option Addr} {ol co:Nat} (h:HR w H R ms ao ol co) (i:Nat) (hi:i<13):w.cell? ⟨H,1+i,none⟩=some (.int .i64 (ms.getD i 0)):=by
 have hl:=h.l
 refine cellRR h.h ?_
 rw [Nat.add_comm 1 i]
 simp only [List.getElem?_toArray,List.getElem?_cons_succ]
 rw [List.getElem?_append_left (by simp;omega)]
 simp [List.getElem?_eq_getElem (show i<ms.length by omega)]
theorem HR.co {w:World} {H R:Nat} {ms:List Int} {ao:Option Addr} {ol co:Nat} (h:HR w H R ms ao ol co):w.cell? ⟨H,14,none⟩=some (.slice ao ol co):=by
 have hl:=h.l
 refine cellRR h.h ?_
 simp only [List.getElem?_toArray,List.getElem?_cons_succ]
 rw [List.getElem?_append_right (by simp;omega)]
 simp [hl]
theorem HR.frz {w:World} {H R:Nat} {ms:List Int} {ao:Option Addr} {ol co:Nat} (h:HR w H R ms ao ol co) (j:Nat):w.frozen? ⟨H,j,none⟩=false:=frozen_of_row w H j _ _ h.h
theorem HR.lt {w:World} {H R:Nat} {ms:List Int} {ao:Option Addr} {ol co:Nat} (h:HR w H R ms ao ol co):H<w.heap.size:=(Array.getElem?_eq_some_iff.1 h.h).1
theorem HR.only {w w':World} {H R:Nat} {ms:List Int} {ao:Option Addr} {ol co:Nat} {S:Nat→Prop} (h:HR w H R ms ao ol co) (ho:Only S w w') (hs:¬S H):HR w' H R ms ao ol co:=⟨(ho.block H h.lt hs).trans h.h,h.l⟩
theorem HR.store {w:World} {H R:Nat} {ms:List Int} {ao:Option Addr} {ol co:Nat} (h:HR w H R ms ao ol co) (i:Nat) (z:Int) (hi:i<13):HR (w.setCell ⟨H,1+i,none⟩ (.int .i64 z)) H R (ms.set i z) ao ol co:=by
 have hl:=h.l
 refine ⟨?_,by simpa using hl⟩
 rw [heap_setCell_same _ H (1+i) _ _ _ h.h]
 congr 2
 rw [Nat.add_comm 1 i]
 apply Array.ext'
 simp only [Array.toList_setIfInBounds,List.set_cons_succ]
 rw [List.set_append_left _ _ (by simp;omega),List.map_set]
theorem newHuffReader_any (a:Option Addr) (ca:Nat) (ls:List Int) (R:Nat) (w:World) (ha:Ins w a ls) (hl:ls.length≤80) :
  Calls Tryz.prog 224 #[.slice a ls.length ca,.pointer (some ⟨R,0,none⟩)] w fun e w'=>∃ H ao co,e=.returned (.pointer (some ⟨H,0,none⟩))∧HR w' H R (hm ls (sbL ls 12)) ao (sbL ls 12).length co∧MinI w' w.heap.size H ao co (sbL ls 12)∧w.heap.size≤H∧Below w.heap.size w w':=by
 have HSY:=syms_any a ca ls w ha hl
 have hodl:(sbL ls 12).length≤2000:=by have:=sbL_len ls 12;omega
 have HMEM:Hid _:=sbL_mem ls 12
 have HST:Hid (∀ t,t<(sbL ls 12).length→hm ls ((sbL ls 12).take (t+1))=hst ls (hm ls ((sbL ls 12).take t)) ((sbL ls 12).getD t 0)):=fun t ht=>by rw [take_snoc _ t ht,hm_snoc]
 have HCE:Hid (hm ls ((sbL ls 12).take (sbL ls 12).length)=hm ls (sbL ls 12)):=by unfold Hid;rw [List.take_length]
 have HBD:Hid (∀ t j,j<13→0≤(hm ls ((sbL ls 12).take t)).getD j 0∧(hm ls ((sbL ls 12).take t)).getD j 0≤2000):=fun t j hj=>by
  rw [hm_get ls _ j hj]
  have h1:=List.countP_le_length (p:=fun s=>decide (zN ls s=j)) (l:=(sbL ls 12).take t)
  have h2:=List.length_take_le t (sbL ls 12)
  have h3:((sbL ls 12).take t).length≤(sbL ls 12).length:=by rw [List.length_take];omega
  omega
 generalize sbL ls 12=od at *
 generalize hlen:ls.length=n at *
 have HL:Hid (ls.length=n):=hlen
 clear hlen
 generalize hN:od.length=N at *
 have HN:Hid (od.length=N):=hN
 clear hN
 go_enter Tryz.func224,Tryz.ntmps224
 go_wp2_with fail
 refine HSY.mono ?_
 clear HSY
 rintro e w1 ⟨ao,co,rfl,hmo,hb1⟩
 have hR0:HR (w1.alloc (Obj.cells #[.pointer (some ⟨R,0,none⟩),.int .i64 0,.int .i64 0,.int .i64 0,.int .i64 0,.int .i64 0,.int .i64 0,.int .i64 0,.int .i64 0,.int .i64 0,.int .i64 0,.int .i64 0,.int .i64 0,.int .i64 0,.slice ao N co] 303)) w1.heap.size R (hm ls (od.take 0)) ao N co:=⟨heap_alloc_new w1 _,by rw [hm_len]⟩
 have hA0:Below w1.heap.size w1 (w1.alloc (Obj.cells #[.pointer (some ⟨R,0,none⟩),.int .i64 0,.int .i64 0,.int .i64 0,.int .i64 0,.int .i64 0,.int .i64 0,.int .i64 0,.int .i64 0,.int .i64 0,.int .i64 0,.int .i64 0,.int .i64 0,.int .i64 0,.slice ao N co] 303)):=bAw
 go_wp2
 generalize w1.alloc (Obj.cells #[.pointer (some ⟨R,0,none⟩),.int .i64 0,.int .i64 0,.int .i64 0,.int .i64 0,.int .i64 0,.int .i64 0,.int .i64 0,.int .i64 0,.int .i64 0,.int .i64 0,.int .i64 0,.int .i64 0,.int .i64 0,.slice ao N co] 303)=W at *
 have HHR:Hid (HR W w1.heap.size R (hm ls (od.take 0)) ao N co):=hR0
 have HMO:Hid (MinI W w.heap.size w1.heap.size ao co od):=hmo.below hA0
 have HBW:Hid (Below w.heap.size w W):=hb1.trans (hA0.mono hb1.size)
 have hHs:w.heap.size≤w1.heap.size:=hb1.size
 clear hR0 hA0 hmo hb1
 generalize w1.heap.size=H at *
 go_loopw [18] (fun i wr=>∃ t:Nat,t≤N∧i=.int .i64 t∧HR wr H R (hm ls (od.take t)) ao N co∧MinI wr w.heap.size H ao co od∧Below w.heap.size w wr) (fun i _=>N-(intOf i).toNat)
 case atStart=>exact ⟨0,Nat.zero_le _,rfl,HHR.out,HMO.out,HBW.out⟩
 case round=>
  clear HHR HMO HBW
  obtain ⟨t,ht,rfl,hhr,hmo,hbel⟩:=hrel
  have HHR:Hid (HR wr H R (hm ls (od.take t)) ao N co):=hhr
  have HM:Hid (MinI wr w.heap.size H ao co od):=hmo
  have HBL:Hid (Below w.heap.size w wr):=hbel
  have hHlt:=hhr.lt
  clear hhr hmo hbel
  by_cases hlt:t<N
  ·obtain ⟨b1,o1,rfl,hb1,hc1⟩:=HM.out.byt.len_pos t (by rw [HN.out];exact hlt)
   have hs1:=hc1 t (by rw [HN.out];exact hlt)
   obtain ⟨sn,hse,hsn,hz1,hz2⟩:=HMEM.out _ (getD_mem (k:=t) (by rw [HN.out];exact hlt))
   have HS:=HST.out t hlt
   rw [hse] at hs1 HS
   obtain ⟨b2,o2,rfl,hb2,hc2⟩:=(ha.below HBL.out nl).len_pos sn (by rw [HL.out];exact hsn)
   have hs2:=hc2 sn (by rw [HL.out];exact hsn)
   clear hc1 hc2 hse
   simp only [hst,zN,Int.toNat_natCast] at HS
   generalize hzz:ls.getD sn 0=z at *
   obtain ⟨y,rfl⟩:∃ j:Nat,z=j:=⟨z.toNat,by omega⟩
   simp only [Int.toNat_natCast] at HS
   have hy:y<13:=by omega
   have hcm:=HHR.out.cm y hy
   have hfz:=HHR.out.frz (1+y)
   have hbd:=HBD.out t y hy
   have HR2:=HHR.out.store y ((hm ls (od.take t)).getD y 0+1) hy
   rw [←HS] at HR2
   generalize (hm ls (od.take t)).getD y 0=c at *
   have HO2:Hid (Only (fun b=>b=H) wr (wr.setCell ⟨H,1+y,none⟩ (.int .i64 (c+1)))):=Only.setCell (Only.refl (fun b=>b=H) wr) (p:=⟨H,1+y,none⟩) (.inl rfl) _
   have HHR2:Hid (HR (wr.setCell ⟨H,1+y,none⟩ (.int .i64 (c+1))) H R (hm ls (od.take (t+1))) (some ⟨b1,o1,none⟩) N co):=HR2
   have HM2:Hid (MinI (wr.setCell ⟨H,1+y,none⟩ (.int .i64 (c+1))) w.heap.size H (some ⟨b1,o1,none⟩) co od):=HM.out.only HO2.out (fun k _ h2=>by omega)
   have HB2:Hid (Below w.heap.size w (wr.setCell ⟨H,1+y,none⟩ (.int .i64 (c+1)))):=HBL.out.setCell (p:=⟨H,1+y,none⟩) hHs _
   clear HR2 HS HM HBL HHR HO2
   go_wp2
   go_region
   go_wp2
   go_roundw
   case rel=>exact ⟨t+1,by omega,by go_num,⟨HHR2.out.h,HHR2.out.l⟩,HM2.out,HB2.out.drew⟩
   case measure=>simp [intOf];omega
  ·have hkn:t=N:=by omega
   subst hkn
   rw [HCE.out] at HHR
   go_wp2
   go_ret
   exact ⟨H,ao,co,rfl,HHR.out,HM.out,hHs,HBL.out⟩
end Go.Proofs.YtaibkchbkedjnaaGreatDoor
