/-
  The model's l2get: symbol after symbol.
-/
import Derived.Test.YtaibkchbkedjnaaGreatDoorILens
import Derived.Test.YtaibkchbkedjnaaGreatDoorHGet1
import Derived.Deep.AppendLies
namespace Go.Proofs.YtaibkchbkedjnaaGreatDoor
open Go.RowKit
set_option linter.unusedVariables false

def atL (zs:List Int) (L i:Nat):List Int:=((List.range i).filter (fun s=>decide (zs.getD s 0=(L:Int)))).map (fun s=>((s:Nat):Int))
def sbL (zs:List Int):Nat→List Int
 | 0=>[]
 | l+1=>sbL zs l++atL zs (l+1) zs.length
theorem atL_zero (zs:List Int) (L:Nat):atL zs L 0=[]:=by simp [atL]
theorem atL_yes (zs:List Int) (L i:Nat) (h:zs.getD i 0=(L:Int)):atL zs L (i+1)=atL zs L i++[(i:Int)]:=by
 unfold atL
 rw [List.range_succ,List.filter_append,List.map_append]
 congr 1
 rw [List.filter_cons_of_pos (by simpa using h)]
 simp
theorem atL_no (zs:List Int) (L i:Nat) (h:¬zs.getD i 0=(L:Int)):atL zs L (i+1)=atL zs L i:=by
 unfold atL
 rw [List.range_succ,List.filter_append,List.map_append]
 rw [List.filter_cons_of_neg (by simpa using h)]
 simp
theorem atL_len (zs:List Int) (L i:Nat):(atL zs L i).length≤i:=by
 unfold atL
 rw [List.length_map]
 have:=List.length_filter_le (fun s=>decide (zs.getD s 0=(L:Int))) (List.range i)
 simpa using this
theorem sbL_len (zs:List Int) (l:Nat):(sbL zs l).length≤l * zs.length:=by
 induction l with
 | zero=>simp [sbL]
 | succ l ih=>
  have:=atL_len zs (l+1) zs.length
  simp only [sbL,List.length_append,Nat.add_mul]
  omega
theorem atL_mem (zs:List Int) (L i:Nat):∀ z ∈ atL zs L i,∃ s:Nat,z=s∧s<i∧zs.getD s 0=(L:Int):=by
 intro z hz
 simp only [atL,List.mem_map,List.mem_filter,List.mem_range,decide_eq_true_eq] at hz
 obtain ⟨s,⟨h1,h2⟩,rfl⟩:=hz
 exact ⟨s,rfl,h1,h2⟩
theorem sbL_mem (zs:List Int) (l:Nat):∀ z ∈ sbL zs l,∃ s:Nat,z=s∧s<zs.length∧1≤zs.getD s 0∧zs.getD s 0≤(l:Int):=by
 induction l with
 | zero=>simp [sbL]
 | succ l ih=>
  intro z hz
  simp only [sbL,List.mem_append] at hz
  rcases hz with hz | hz
  ·obtain ⟨s,h1,h2,h3,h4⟩:=ih z hz
   exact ⟨s,h1,h2,h3,by omega⟩
  ·obtain ⟨s,h1,h2,h3⟩:=atL_mem _ _ _ z hz
   exact ⟨s,h1,h2,by omega,by omega⟩

set_option maxHeartbeats 3200000 in
theorem syms_any (a:Option Addr) (cap:Nat) (zs:List Int) (w:World) (hb:Ins w a zs) (hn:zs.length≤80) :
  Calls Tryz.prog 235 #[.slice a zs.length cap] w fun e w'=>
   ∃ a' cp,e=.returned (.slice a' (sbL zs 12).length cp)∧MinI w' w.heap.size w'.heap.size a' cp (sbL zs 12)∧Below w.heap.size w w':=by
 obtain ⟨i0,hi,hz0,hz1,hz2⟩:=info_parts Tryz.infoI64
 have HSB:Hid (∀ l,sbL zs (l+1)=sbL zs l++atL zs (l+1) zs.length):=fun _=>rfl
 have HSL:Hid _:=sbL_len zs
 have HAY:Hid _:=atL_yes zs
 have HAN:Hid _:=atL_no zs
 have HAZ:Hid _:=atL_zero zs
 have HAL:Hid _:=atL_len zs
 generalize hlen:zs.length=n at *
 have HL:Hid (zs.length=n):=hlen
 clear hlen
 go_enter Tryz.func235,Tryz.ntmps235
 go_wp2
 go_loopw [3,4] (fun o l wr=>∃ (M:Nat) (y:Int),y=M∧1≤M∧M≤13∧l=.int .i64 y∧OVI wr w.heap.size o (sbL zs (M - 1))∧Below w.heap.size w wr) (fun _ l _=>13 - (intOf l).toNat)
 case atStart=>exact ⟨1,1,rfl,by omega,by omega,rfl,OVI.nil _ _,Below.refl _ _⟩
 case round=>
  obtain ⟨M,y,hy,hM1,hM,rfl,hov,hbel⟩:=hrel
  obtain ⟨ao,co,rfl⟩:=hov.form
  have hsl:=HSL.out (M - 1)
  have hlb:(M - 1) * n≤12 * 80:=Nat.mul_le_mul (by omega) hn
  have hm:(sbL zs (M - 1)).length≤960:=by omega
  have HOV:Hid (OVI wr w.heap.size (.slice ao (sbL zs (M - 1)).length co) (sbL zs (M - 1))):=hov
  clear hov hsl hlb
  have HMY:Hid (y=(M:Int)):=hy
  have HM1:Hid (1≤M∧M≤13):=⟨hM1,hM⟩
  have hy1:1≤y∧y≤13:=by omega
  clear hy hM1 hM
  by_cases hL12:y≤12
  ·have HB0:Hid (Below w.heap.size w wr):=hbel
   have HMS:Hid (sbL zs (M+1 - 1)=sbL zs (M - 1)++atL zs M n):=by
    obtain ⟨l,rfl⟩:∃ l,M=l+1:=⟨M - 1,by have:=HM1.out;omega⟩
    exact HSB.out l
   clear hbel
   generalize sbL zs (M - 1)=q0 at *
   generalize hm0:q0.length=m0 at *
   have HM0:Hid (q0.length=m0):=hm0
   clear hm0
   go_wp2
   go_loopw [3,13] (fun o i wi=>∃ k:Nat,k≤n∧i=.int .i64 k∧OVI wi w.heap.size o (q0++atL zs M k)∧Below w.heap.size w wi) (fun _ i _=>n - (intOf i).toNat)
   case atStart=>exact ⟨0,Nat.zero_le _,rfl,by rw [HAZ.out,List.append_nil];exact HOV.out,HB0.out⟩
   case round=>
    clear HOV HB0
    obtain ⟨k,hk,rfl,hov,hbel⟩:=hrel
    by_cases hlt:k<n
    ·obtain ⟨b1,o1,rfl,hb1,hc1⟩:=(hb.below hbel (Nat.le_refl _)).len_pos k (by rw [HL.out];exact hlt)
     have hs1:=hc1 k (by rw [HL.out];exact hlt)
     have g1:=getD_rngI hb.1 k
     have hal:=HAL.out M k
     have HY:=HAY.out M k
     have HN:=HAN.out M k
     obtain ⟨au,cu,rfl⟩:=hov.form
     have hsz:=hbel.size
     clear hc1
     generalize zs.getD k 0=x at *
     have hlen2:(q0++atL zs M k).length≤2000:=by rw [List.length_append,HM0.out];omega
     clear hal
     generalize hq:q0++atL zs M k=q at *
     by_cases hx:x=y
     ·have HE:Hid (q++[(k:Int)]=q0++atL zs M (k+1)):=by unfold Hid;rw [HY (hx.trans HMY.out),←List.append_assoc,hq]
      have HQR:Hid (∀ z ∈ q,-9223372036854775808≤z∧z≤9223372036854775807):=hov.2
      have hu:=hov.1
      have HOV:Hid (OVI wr w.heap.size (.slice au q.length cu) q):=hov
      clear HY HN hq hov
      subst hx
      generalize hql:q.length=m at *
      have HQL:Hid (q.length=m):=hql
      clear hql
      go_wp2_with (at_builtin;(refine wpList_append_lies _ rfl (.tmp 21) (.tmp 23) 29 rfl w.heap.size 3 i0 (.int .i64 0) 1 8 Tryz.underlying29 hi hz0 hz1 hz2 rfl (by decide) (.slice au m cu) m (q.map (Value.int .i64)) rfl (hu.alloc _) ⟨wr.heap.size,0,none⟩ 1 1 [.int .i64 (k:Nat)] rfl rfl (by intro j y hj;match j,hj with | 0,hj=>(simp at hj;subst hj;simp [Addr.add])) (by intro y hy;simp at hy;subst hy;rfl) (by omega) (by unfold maxLen;omega) (by omega) (by simp;omega) _ rfl ?_);intro g cap1 w1 hown hgrow hat hlt1)
      have HOV2:Hid (OVI w1 w.heap.size (.slice (some ⟨g,0,none⟩) (m+1) cap1) (q++[(k:Int)])):=OVI.app HQL.out HQR.out (by omega) hown
      have HB2:Hid (Below w.heap.size w w1):=app_below hbel hsz HOV.out hgrow
      clear hown hgrow hat hlt1 HOV hu hbel
      go_roundw
      case rel=>exact ⟨k+1,by omega,by go_num,by rw [←HE.out];exact HOV2.out,HB2.out⟩
      case measure=>simp [intOf];omega
     ·have HE:Hid (q=q0++atL zs M (k+1)):=by unfold Hid;rw [HN (fun h=>hx (h.trans HMY.out.symm)),hq]
      have hxx:(x == y)=false:=by simpa using hx
      have HOV:Hid _:=hov
      clear HY HN hq hov hx
      go_wp2
      go_roundw
      case rel=>exact ⟨k+1,by omega,by go_num,by rw [←HE.out];exact HOV.out,hbel⟩
      case measure=>simp [intOf];omega
    ·have hkn:k=n:=by omega
     subst hkn
     obtain ⟨au,cu,rfl⟩:=hov.form
     have HOV:Hid _:=hov
     clear hov
     go_wp2
     go_roundw
     case rel=>exact ⟨M+1,y+1,by have:=HMY.out;omega,by omega,by have:=HMY.out;omega,by go_num,by rw [HMS.out];exact HOV.out,hbel⟩
     case measure=>simp [intOf];omega
  ·have hLe:M=13:=by have:=HMY.out;have:=HM1.out;omega
   subst hLe
   have HOV2:Hid (OVI wr w.heap.size (.slice ao (sbL zs (13 - 1)).length co) (sbL zs 12)):=HOV.out
   clear HOV
   go_wp2
   go_ret
   obtain ⟨a',cp,he,hmm⟩:=HOV2.out.mine
   exact ⟨a',cp,congrArg Ending.returned he,hmm,hbel⟩
def zN (zs:List Int) (s:Int):Nat:=(zs.getD s.toNat 0).toNat
def cst (zs:List Int) (st:Nat × Nat × List Int) (s:Int):Nat × Nat × List Int:=
 (st.1 * 2 ^ (zN zs s - st.2.1)+1,zN zs s,st.2.2.set s.toNat ((st.1 * 2 ^ (zN zs s - st.2.1):Nat):Int))
def crun (zs l:List Int):Nat × Nat × List Int:=l.foldl (cst zs) (0,0,List.replicate zs.length 0)
theorem crun_nil (zs:List Int):crun zs []=(0,0,List.replicate zs.length 0):=rfl
theorem crun_snoc (zs l:List Int) (s:Int):crun zs (l++[s])=cst zs (crun zs l) s:=by simp [crun,List.foldl_append]
theorem crun_len (zs l:List Int):(crun zs l).2.2.length=zs.length:=by
 have:∀ (l:List Int) (st:Nat × Nat × List Int),(l.foldl (cst zs) st).2.2.length=st.2.2.length:=by
  intro l
  induction l with
  | nil=>intro st;rfl
  | cons s l ih=>intro st;rw [List.foldl_cons,ih];simp [cst]
 unfold crun
 rw [this]
 simp
def asc (zs l:List Int):Prop:=l.Pairwise (fun a b=>zN zs a≤zN zs b)
theorem asc_same (zs:List Int) (m:Nat) (l:List Int) (h:∀ a ∈ l,zN zs a=m):asc zs l:=by
 unfold asc
 induction l with
 | nil=>exact List.Pairwise.nil
 | cons a l ih=>
  refine List.Pairwise.cons (fun b hb=>?_) (ih (fun x hx=>h x (by simp [hx])))
  rw [h a (by simp),h b (by simp [hb])]
  exact Nat.le_refl _
theorem zN_at (zs:List Int) (L i:Nat):∀ a ∈ atL zs L i,zN zs a=L:=by
 intro a ha
 obtain ⟨s,rfl,_,h⟩:=atL_mem zs L i a ha
 unfold zN
 rw [Int.toNat_natCast,h]
 simp
theorem zN_sb (zs:List Int) (l:Nat):∀ a ∈ sbL zs l,zN zs a≤l:=by
 intro a ha
 obtain ⟨s,rfl,_,h1,h2⟩:=sbL_mem zs l a ha
 unfold zN
 rw [Int.toNat_natCast]
 omega
theorem asc_sb (zs:List Int) (l:Nat):asc zs (sbL zs l):=by
 induction l with
 | zero=>exact List.Pairwise.nil
 | succ l ih=>
  simp only [sbL]
  refine List.pairwise_append.2 ⟨ih,asc_same zs (l+1) _ (zN_at zs (l+1) _),fun a ha b hb=>?_⟩
  rw [zN_at zs (l+1) _ b hb]
  have:=zN_sb zs l a ha
  omega
theorem asc_part (zs:List Int) (l i:Nat):asc zs (sbL zs l++atL zs (l+1) i):=by
 refine List.pairwise_append.2 ⟨asc_sb zs l,asc_same zs (l+1) _ (zN_at zs (l+1) _),fun a ha b hb=>?_⟩
 rw [zN_at zs (l+1) _ b hb]
 have:=zN_sb zs l a ha
 omega
theorem take_snoc (l:List Int) (t:Nat) (h:t<l.length):l.take (t+1)=l.take t++[l.getD t 0]:=by
 rw [List.take_succ_eq_append_getElem h]
 simp [List.getD_eq_getElem?_getD,List.getElem?_eq_getElem h]
theorem cr_step (nx ln z t:Nat) (hl:ln≤z) (h:nx≤t * 2 ^ ln):nx * 2 ^ (z - ln)≤t * 2 ^ z∧nx * 2 ^ (z - ln)+1≤(t+1) * 2 ^ z:=by
 have h1:nx * 2 ^ (z - ln)≤t * 2 ^ ln * 2 ^ (z - ln):=Nat.mul_le_mul_right _ h
 rw [Nat.mul_assoc,←Nat.pow_add,show ln+(z - ln)=z from by omega] at h1
 have h2:0<2 ^ z:=Nat.pow_pos (by omega)
 rw [Nat.add_mul]
 omega
theorem cr_bound (zs l:List Int) (h:asc zs l) (t:Nat) (ht:t≤l.length):(crun zs (l.take t)).1≤t * 2 ^ (crun zs (l.take t)).2.1∧(t<l.length→(crun zs (l.take t)).2.1≤zN zs (l.getD t 0)):=by
 induction t with
 | zero=>simp [crun_nil]
 | succ t ih=>
  obtain ⟨i1,i2⟩:=ih (by omega)
  rw [take_snoc l t (by omega),crun_snoc]
  simp only [cst]
  refine ⟨(cr_step _ _ _ t (i2 (by omega)) i1).2,fun ht2=>?_⟩
  have hp:=List.pairwise_iff_getElem.1 h t (t+1) (by omega) ht2 (by omega)
  simpa [List.getD_eq_getElem?_getD,List.getElem?_eq_getElem (show t<l.length by omega),List.getElem?_eq_getElem ht2] using hp
theorem cr_full (zs l:List Int) (h:asc zs l):(crun zs l).1≤l.length * 2 ^ (crun zs l).2.1:=by
 have:=(cr_bound zs l h l.length (Nat.le_refl _)).1
 rw [List.take_length] at this
 exact this
theorem cr_ln (zs l:List Int) (m:Nat) (h:∀ a ∈ l,zN zs a≤m):(crun zs l).2.1≤m:=by
 by_cases h0:l=[]
 ·subst h0;simp [crun_nil]
 ·have hl:0<l.length:=List.length_pos_iff.2 h0
  have e:l=l.take (l.length - 1)++[l.getD (l.length - 1) 0]:=by
   rw [←take_snoc l (l.length - 1) (by omega),show l.length - 1+1=l.length from by omega,List.take_length]
  rw [e,crun_snoc]
  simp only [cst]
  exact h _ (getD_mem (by omega))
def cv (zs l:List Int) (L:Nat):Nat:=(crun zs l).1 * 2 ^ (L - (crun zs l).2.1)
theorem cv_double (zs l:List Int) (L:Nat) (h:(crun zs l).2.1≤L):cv zs l (L+1)=cv zs l L * 2:=by
 unfold cv
 rw [show L+1 - (crun zs l).2.1=(L - (crun zs l).2.1)+1 from by omega,Nat.pow_succ,Nat.mul_assoc]
theorem cv_snoc (zs l:List Int) (s:Int) (L:Nat) (h:zN zs s=L):cv zs (l++[s]) L=cv zs l L+1∧(crun zs (l++[s])).2.2=(crun zs l).2.2.set s.toNat (cv zs l L:Nat):=by
 unfold cv
 rw [crun_snoc]
 simp only [cst,h]
 simp
theorem cv_bound (zs l:List Int) (L:Nat) (h:asc zs l) (hl:(crun zs l).2.1≤L) (hL:L≤12) (hn:l.length≤2000):cv zs l L≤8192000:=by
 have h1:=(cr_step _ _ L l.length hl (cr_full zs l h)).1
 have h2:2 ^ L≤2 ^ 12:=Nat.pow_le_pow_right (by omega) hL
 have h3:l.length * 2 ^ L≤2000 * 2 ^ 12:=Nat.mul_le_mul hn h2
 unfold cv
 exact Nat.le_trans h1 (Nat.le_trans h3 (by decide))
theorem cv_nil (zs:List Int):cv zs [] 0=0:=by simp [cv,crun_nil]

structure At (zs:List Int) (M k c:Nat) (out:List Int):Prop where
 c:cv zs (sbL zs (M - 1)++atL zs M k) M=c
 out:(crun zs (sbL zs (M - 1)++atL zs M k)).2.2=out
theorem at_bound {zs:List Int} {M k c:Nat} {out:List Int} (h:At zs M k c out) (hM:1≤M) (hM2:M≤12) (hn:zs.length≤80) (hk:k≤zs.length):c≤8192000∧out.length=zs.length:=by
 obtain ⟨l,rfl⟩:∃ l,M=l+1:=⟨M - 1,by omega⟩
 have hs:=sbL_len zs l
 have ha:=atL_len zs (l+1) k
 have hm:l * zs.length≤11 * 80:=Nat.mul_le_mul (by omega) hn
 refine ⟨?_,by rw [←h.out];exact crun_len zs _⟩
 rw [←h.c]
 refine cv_bound zs _ _ (asc_part zs l k) (cr_ln zs _ _ (fun a ha=>?_)) hM2 (by rw [List.length_append];simp;omega)
 rcases List.mem_append.1 ha with h1 | h1
 ·have:=zN_sb zs l a h1;omega
 ·have:=zN_at zs (l+1) k a h1;omega
theorem at_yes {zs:List Int} {M k c:Nat} {out:List Int} (h:At zs M k c out) (hz:zs.getD k 0=(M:Int)):At zs M (k+1) (c+1) (out.set k ((c:Nat):Int)):=by
 have e:sbL zs (M - 1)++atL zs M (k+1)=(sbL zs (M - 1)++atL zs M k)++[(k:Int)]:=by rw [atL_yes zs M k hz,List.append_assoc]
 have hzn:zN zs (k:Int)=M:=by unfold zN;rw [Int.toNat_natCast,hz];simp
 obtain ⟨s1,s2⟩:=cv_snoc zs (sbL zs (M - 1)++atL zs M k) (k:Int) M hzn
 refine ⟨by rw [e,s1,h.c],?_⟩
 rw [e,s2,h.c,h.out]
 simp
theorem at_no {zs:List Int} {M k c:Nat} {out:List Int} (h:At zs M k c out) (hz:¬zs.getD k 0=(M:Int)):At zs M (k+1) c out:=by
 refine ⟨?_,?_⟩
 ·rw [atL_no zs M k hz];exact h.c
 ·rw [atL_no zs M k hz];exact h.out
theorem at_first (zs:List Int):cv zs (sbL zs 0) 0=0∧(crun zs (sbL zs 0)).2.2=List.replicate zs.length 0:=⟨cv_nil zs,rfl⟩
theorem at_start {zs:List Int} {M c:Nat} {out:List Int} (hM:1≤M) (hc:cv zs (sbL zs (M - 1)) (M - 1)=c) (ho:(crun zs (sbL zs (M - 1))).2.2=out):At zs M 0 (c * 2) out:=by
 obtain ⟨l,rfl⟩:∃ l,M=l+1:=⟨M - 1,by omega⟩
 simp only [Nat.add_sub_cancel] at hc ho
 refine ⟨?_,?_⟩
 ·rw [atL_zero,List.append_nil,Nat.add_sub_cancel,cv_double zs _ l (cr_ln zs _ _ (zN_sb zs l)),hc]
 ·rw [atL_zero,List.append_nil,Nat.add_sub_cancel];exact ho
theorem at_end {zs:List Int} {M c:Nat} {out:List Int} (hM:1≤M) (h:At zs M zs.length c out):cv zs (sbL zs M) M=c∧(crun zs (sbL zs M)).2.2=out:=by
 obtain ⟨l,rfl⟩:∃ l,M=l+1:=⟨M - 1,by omega⟩
 have e:sbL zs (l+1)=sbL zs (l+1 - 1)++atL zs (l+1) zs.length:=rfl
 rw [e]
 exact ⟨h.c,h.out⟩

set_option maxHeartbeats 3200000 in
theorem l2codes_any (a:Option Addr) (cap:Nat) (zs:List Int) (w:World) (hb:Ins w a zs) (hn:zs.length≤80) :
  Calls Tryz.prog 179 #[.slice a zs.length cap] w fun e w'=>
   e=.returned (.slice (some ⟨w.heap.size,0,none⟩) zs.length zs.length)∧OwI w' w.heap.size w.heap.size zs.length (crun zs (sbL zs 12)).2.2∧Below w.heap.size w w':=by
 obtain ⟨i0,hi,hz0,hz1,hz2⟩:=info_parts Tryz.infoI64
 have HAF:Hid _:=at_first zs
 have HAB:Hid _:=fun M k c out (h:At zs M k c out) h1 h2 h3=>at_bound h h1 h2 hn h3
 have HAY:Hid _:=fun M k c out (h:At zs M k c out)=>at_yes h
 have HAN:Hid _:=fun M k c out (h:At zs M k c out)=>at_no h
 have HAS:Hid _:=fun M c out h1 h2 h3=>@at_start zs M c out h1 h2 h3
 have HAE:Hid _:=fun M c out h1 h2=>@at_end zs M c out h1 h2
 generalize hlen:zs.length=n at *
 have HL:Hid (zs.length=n):=hlen
 clear hlen
 go_enter Tryz.func179,Tryz.ntmps179
 go_wp2_with (at_make;refine wpList_make_full _ rfl _ _ 29 rfl w.heap.size 3 i0 (.int .i64 0) 1 Tryz.underlying29 hi hz0 hz1 .i64 .i64 _ _ n rfl rfl rfl rfl (by rw [hz2];omega) (by unfold maxLen;omega) (Nat.le_refl _) ?_;intro w1 hown hgrow)
 have h0:OwI w1 w.heap.size w.heap.size n (List.replicate n 0):=by
  refine ⟨?_,by intro z hz;simp at hz;omega⟩
  rw [made_zeroI] at hown
  simpa using hown
 have hbw:Below w.heap.size w w1:=(Below.refl _ _).grown hgrow (Nat.le_refl _) (by intro k hk;cases hk)
 have H0:Hid (OwI w1 w.heap.size w.heap.size n (List.replicate n 0)):=h0
 clear h0 hown hgrow hi hz0 hz1 hz2
 go_loopw [4,5] (fun x l wr=>∃ (M c:Nat) (y:Int) (out:List Int),y=M∧1≤M∧M≤13∧l=.int .i64 y∧x=.int .i64 c∧c≤8192000∧cv zs (sbL zs (M - 1)) (M - 1)=c∧(crun zs (sbL zs (M - 1))).2.2=out∧OwI wr w.heap.size w.heap.size n out∧Below w.heap.size w wr) (fun _ l _=>13 - (intOf l).toNat)
 case atStart=>exact ⟨1,0,1,List.replicate n 0,rfl,by omega,by omega,rfl,rfl,by omega,HAF.out.1,HAF.out.2,H0.out,hbw⟩
 case round=>
  clear H0 hbw
  obtain ⟨M,c,y,out,hy,hM1,hM,rfl,rfl,hc,hcv,hout,hown,hbel⟩:=hrel
  have HMY:Hid (y=(M:Int)):=hy
  have HM1:Hid (1≤M∧M≤13):=⟨hM1,hM⟩
  have HCV:Hid (cv zs (sbL zs (M - 1)) (M - 1)=c∧(crun zs (sbL zs (M - 1))).2.2=out):=⟨hcv,hout⟩
  have HO:Hid (OwI wr w.heap.size w.heap.size n out):=hown
  have hy1:1≤y∧y≤13:=by omega
  clear hy hM1 hM hcv hout hown
  by_cases hL12:y≤12
  ·have HAT:Hid (At zs M 0 (c * 2) out):=HAS.out M c out HM1.out.1 HCV.out.1 HCV.out.2
   have hM12:M≤12:=by have:=HMY.out;omega
   have HM12:Hid (M≤12):=hM12
   clear hM12 HCV
   have HBL:Hid (Below w.heap.size w wr):=hbel
   clear hbel
   go_wp2
   go_loopw [4,6] (fun x i wi=>∃ (k d:Nat) (o2:List Int),k≤n∧i=.int .i64 k∧x=.int .i64 d∧At zs M k d o2∧OwI wi w.heap.size w.heap.size n o2∧Below w.heap.size w wi) (fun _ i _=>n - (intOf i).toNat)
   case atStart=>exact ⟨0,c * 2,out,Nat.zero_le _,rfl,by go_num,HAT.out,HO.out,HBL.out⟩
   case round=>
    clear HAT HO HBL
    obtain ⟨k,d,o2,hk,rfl,rfl,hat,hown,hbel⟩:=hrel
    have HAT:Hid (At zs M k d o2):=hat
    have HO:Hid (OwI wr w.heap.size w.heap.size n o2):=hown
    obtain ⟨hd,hol⟩:=HAB.out M k d o2 hat HM1.out.1 HM12.out (by omega)
    clear hat hown
    by_cases hlt:k<n
    ·obtain ⟨b1,o1,rfl,hb1,hc1⟩:=(hb.below hbel (Nat.le_refl _)).len_pos k (by rw [HL.out];exact hlt)
     have hs1:=hc1 k (by rw [HL.out];exact hlt)
     have g1:=getD_rngI hb.1 k
     have HY:=HAY.out M k d o2 HAT.out
     have HN:=HAN.out M k d o2 HAT.out
     clear hc1
     generalize zs.getD k 0=x at *
     by_cases hx:x=y
     ·have HA2:Hid (At zs M (k+1) (d+1) (o2.set k ((d:Nat):Int))):=HY (hx.trans HMY.out)
      subst hx
      have hdst:=HO.out.cell k (by rw [hol];exact hlt)
      have hfz:=HO.out.frozen k
      have hdr:-9223372036854775808≤((d:Nat):Int)∧((d:Nat):Int)≤9223372036854775807:=by omega
      have HR:Hid (OwI (wr.setCell ⟨w.heap.size,k,none⟩ (.int .i64 (d:Nat))) w.heap.size w.heap.size n (o2.set k ((d:Nat):Int))):=HO.out.store k ((d:Nat):Int) hdr
      have HB:Hid (Below w.heap.size w (wr.setCell ⟨w.heap.size,k,none⟩ (.int .i64 (d:Nat)))):=hbel.setCell (p:=⟨w.heap.size,k,none⟩) (Nat.le_refl _) _
      clear HY HN HO hbel hol hdr
      generalize o2.getD k 0=old at *
      go_wp2
      go_roundw
      case rel=>exact ⟨k+1,d+1,_,by omega,by go_num,by go_num,HA2.out,by simpa using HR.out,by simpa using HB.out⟩
      case measure=>simp [intOf];omega
     ·have HA2:Hid (At zs M (k+1) d o2):=HN (fun h=>hx (h.trans HMY.out.symm))
      have hxx:(x == y)=false:=by simpa using hx
      clear HY HN hx hol
      go_wp2
      go_roundw
      case rel=>exact ⟨k+1,d,o2,by omega,by go_num,rfl,HA2.out,HO.out,hbel⟩
      case measure=>simp [intOf];omega
    ·have hkn:k=n:=by omega
     subst hkn
     have HE:=HAE.out M d o2 HM1.out.1 HAT.out
     have HE1:Hid _:=HE
     clear HE hol
     go_wp2
     go_roundw
     case rel=>exact ⟨M+1,d,y+1,o2,by have:=HMY.out;omega,by omega,by have:=HM12.out;omega,by go_num,rfl,hd,HE1.out.1,HE1.out.2,HO.out,hbel⟩
     case measure=>simp [intOf];omega
  ·have hLe:M=13:=by have:=HMY.out;have:=HM1.out;omega
   subst hLe
   have HA:Hid (OwI wr w.heap.size w.heap.size n (crun zs (sbL zs 12)).2.2):=by have h:(crun zs (sbL zs 12)).2.2=out:=HCV.out.2;rw [h];exact HO.out
   clear HO HCV
   go_wp2
   go_ret
   exact ⟨rfl,HA.out,hbel⟩
theorem OVI.stay {S:Nat→Prop} {w w':World} {B:Nat} {v:Value} {zs:List Int} (h:OVI w B v zs) (ho:Only S w w') (hs:∀ k,B≤k→¬S k):OVI w' B v zs:=by
 refine ⟨⟨h.1.1,?_⟩,h.2⟩
 rcases h.1.2 with h' | ⟨g,cap,cur,h',hg,hh,r⟩
 ·exact .inl h'
 ·exact .inr ⟨g,cap,cur,h',hg,(ho.block g (Array.getElem?_eq_some_iff.1 hh).1 (hs g hg)).trans hh,r⟩

theorem OVI.weak {w:World} {B B':Nat} {v:Value} {zs:List Int} (h:OVI w B v zs) (hB:B'≤B):OVI w B' v zs:=by
 refine ⟨⟨h.1.1,?_⟩,h.2⟩
 rcases h.1.2 with h' | ⟨g,cap,cur,h',hg,r⟩
 ·exact .inl h'
 ·exact .inr ⟨g,cap,cur,h',by omega,r⟩

def One (ls cs:List Int) (n v p i k:Nat):Prop:=1≤k∧k≤12∧p+k≤n∧i<ls.length∧Hit ls cs v p k i∧(∀ j,j<i→¬Hit ls cs v p k j)∧NoHit ls cs v p (k - 1)
inductive Reads (ls cs:List Int) (n v p:Nat):List Int→Nat→Prop
 | nil:Reads ls cs n v p [] p
 | snoc {q:List Int} {e i k:Nat}:Reads ls cs n v p q e→One ls cs n v e i k→Reads ls cs n v p (q++[(i:Int)]) (e+k)

set_option maxRecDepth 20000 in
set_option maxHeartbeats 4000000 in
theorem l2get_any (a:Option Addr) (ca:Nat) (ls:List Int) (x:Option Addr) (cx:Nat) (zs:List Int) (n v p N:Nat) (w:World) (ha:Ins w a ls) (hx:Byt w x zs) (hz:zs=enc n v) (hn:n≤4104) (hp:p≤n) (hl:ls.length≤80) (hN:N≤300) :
  Calls Tryz.prog 158 #[.slice a ls.length ca,.agg #[.slice x zs.length cx,.int .i64 n],.int .i64 p,.int .i64 N] w fun e w'=>Below w.heap.size w w' ∧
   ((∃ q E u, q.length = N ∧ Reads ls (crun ls (sbL ls 12)).2.2 n v p q E ∧ OVI w' w.heap.size u q ∧ e = .returned (.tuple #[u, .int .i64 (E : Nat), .bool true])) ∨
    (∃ q E,q.length<N∧Reads ls (crun ls (sbL ls 12)).2.2 n v p q E∧NoHit ls (crun ls (sbL ls 12)).2.2 v E (min 12 (n - E))∧e=.returned (.tuple #[.slice none 0 0,.int .i64 (-1),.bool false]))):=by
 obtain ⟨i0,hi,hz0,hz1,hz2⟩:=info_parts Tryz.infoI64
 have hw:Below w.heap.size w (w.alloc (Obj.cells #[Value.slice x zs.length cx,Value.int IntKind.i64 n] 155)):=(Below.refl _ _).alloc (Nat.le_refl _) _
 have r0:(w.alloc (Obj.cells #[Value.slice x zs.length cx,Value.int IntKind.i64 n] 155)).cell? ⟨w.heap.size,0,none⟩=some (.slice x zs.length cx):=by simp
 have r1:(w.alloc (Obj.cells #[Value.slice x zs.length cx,Value.int IntKind.i64 n] 155)).cell? ⟨w.heap.size,1,none⟩=some (.int .i64 n):=by simp
 have HSZ:Hid (w.heap.size<(w.alloc (Obj.cells #[Value.slice x zs.length cx,Value.int IntKind.i64 n] 155)).heap.size):=by simp [Hid]
 have HLC:=l2codes_any a ca ls _ (ha.below hw (Nat.le_refl _)) hl
 have HCL:Hid _:=crun_len ls (sbL ls 12)
 have HZ:Hid (zs=enc n v):=hz
 clear hz
 go_enter Tryz.func158,Tryz.ntmps158
 go_wp2_with fail
 generalize w.alloc (Obj.cells #[Value.slice x zs.length cx,Value.int IntKind.i64 n] 155)=W at *
 refine HLC.mono ?_
 clear HLC
 rintro e w1 ⟨rfl,hc1,hb1⟩
 have hbw1:Below w.heap.size w w1:=hw.trans (hb1.mono (Nat.le_of_lt HSZ.out))
 have HBW:Hid (Below w.heap.size w w1):=hbw1
 have HA:Hid (Ins w1 a ls):=ha.below hbw1 (Nat.le_refl _)
 have HX:Hid (Byt w1 x zs):=hx.below hbw1 (Nat.le_refl _)
 have HCC:Hid (Ins w1 (some ⟨W.heap.size,0,none⟩) (crun ls (sbL ls 12)).2.2):=hc1.byt
 have HR:Hid (w1.cell? ⟨w.heap.size,0,none⟩=some (.slice x zs.length cx)∧w1.cell? ⟨w.heap.size,1,none⟩=some (.int .i64 n)):=⟨keep hb1 HSZ.out r0,keep hb1 HSZ.out r1⟩
 have HS1:Hid (w.heap.size<w1.heap.size):=by have:=HSZ.out;have:=hb1.size;unfold Hid;omega
 clear hw r0 r1 HSZ hc1 hb1 hbw1 ha hx
 generalize W.heap.size=gc at *
 generalize hcs0:(crun ls (sbL ls 12)).2.2=cs at *
 have HCSE:Hid ((crun ls (sbL ls 12)).2.2=cs):=hcs0
 clear hcs0
 generalize hB:w1.heap.size=B at *
 have HB:Hid (w1.heap.size=B):=hB
 clear hB
 go_wp2
 go_loopw [2,12,13] (fun t o i wr=>∃ (k:Nat) (q:List Int) (P:Nat),k≤N∧i=.int .i64 k∧t=.int .i64 P∧P≤n∧OVI wr B o q∧q.length=k∧Reads ls cs n v p q P∧Below B w1 wr) (fun _ _ i _=>N - (intOf i).toNat)
 case atStart=>exact ⟨0,[],p,Nat.zero_le _,rfl,rfl,hp,OVI.nil _ _,rfl,.nil,Below.refl _ _⟩
 case round=>
  obtain ⟨k,q,P,hk,rfl,rfl,hP,hov,hql,hrd,hbel⟩:=hrel
  obtain ⟨au,cu,rfl⟩:=hov.form
  have HQL:Hid (q.length=k):=hql
  rw [hql] at hov ⊢
  have HOV:Hid (OVI wr B (.slice au k cu) q):=hov
  have HRD:Hid (Reads ls cs n v p q P):=hrd
  have HBL:Hid (Below B w1 wr):=hbel
  have c0:=keep hbel HS1.out HR.out.1
  have c1:=keep hbel HS1.out HR.out.2
  have HBB:Hid (Below w.heap.size w wr):=HBW.out.trans (hbel.mono (Nat.le_of_lt HS1.out))
  have HZW:Hid (B≤wr.heap.size):=by have:=hbel.size;have:=HB.out;unfold Hid;omega
  clear hov hql hrd hbel
  by_cases hlt:k<N
  ·have HONE:=l2one_any a ca ls (some ⟨gc,0,none⟩) ls.length cs x cx zs n v P wr (HA.out.below HBL.out (by rw [HB.out];exact Nat.le_refl _)) (HCC.out.below HBL.out (by rw [HB.out];exact Nat.le_refl _)) (HX.out.below HBL.out (by rw [HB.out];exact Nat.le_refl _)) HZ.out hn hP hl HCL.out
   go_wp2_with fail
   refine HONE.mono ?_
   clear HONE
   rintro e w2 ⟨hb2,⟨m,i,g1,g2,g3,g4,g5,g6,g7,rfl⟩ | ⟨hno,rfl⟩⟩
   ·have HB2:Hid (Below B w1 w2):=HBL.out.trans (hb2.mono HZW.out)
    have HOV2:Hid (OVI w2 B (.slice au k cu) q):=HOV.out.stay (Only.ofBelow (S:=fun _=>False) hb2 (Nat.le_refl _)) (by simp)
    have HRD2:Hid (Reads ls cs n v p (q++[(i:Int)]) (P+m)):=.snoc HRD.out ⟨g1,g2,g3,g4,g5,g6,g7⟩
    have hz3:B≤w2.heap.size:=Nat.le_trans HZW.out hb2.size
    have hu:w2.ownsRow B 3 1 (.slice au k cu) k (q.map (Value.int .i64)):=by have:=HOV2.out.1;rw [HQL.out] at this;exact this
    clear hb2 g5 g6 g7 HRD HOV HBL c0 c1
    generalize P+m=P2 at *
    generalize hiz:(i:Int)=iz at *
    have hir:0≤iz∧iz≤80:=by omega
    clear hiz g1 g2 g4
    have HN3:Hid (k+1≤300):=by unfold Hid;omega
    have hk3:k+1≤300:=HN3.out
    clear hN hn hl hp hP
    go_wp2_with (at_builtin;(refine wpList_append_lies _ rfl (.tmp 33) (.tmp 35) 29 rfl B 3 i0 (.int .i64 0) 1 8 Tryz.underlying29 hi hz0 hz1 hz2 rfl (by decide) (.slice au k cu) k (q.map (Value.int .i64)) rfl (hu.alloc _) ⟨w2.heap.size,0,none⟩ 1 1 [.int .i64 iz] rfl rfl (by intro j y hj;match j,hj with | 0,hj=>(simp at hj;subst hj;simp [Addr.add])) (by intro y hy;simp at hy;subst hy;rfl) (by have:=HN3.out;omega) (by have:=HN3.out;unfold maxLen;omega) (by have:=HN3.out;omega) (by simp;omega) _ rfl ?_);intro g cap1 w4 hown hgrow hat hlt1)
    have HOV4:Hid (OVI w4 B (.slice (some ⟨g,0,none⟩) (k+1) cap1) (q++[iz])):=OVI.app HQL.out HOV2.out.2 (by omega) hown
    have HB4:Hid (Below B w1 w4):=app_below HB2.out hz3 HOV2.out hgrow
    clear hown hgrow hat hlt1 HOV2 HB2 hu
    go_wp2
    go_roundw
    case rel=>exact ⟨k+1,q++[iz],P2,by omega,by go_num,rfl,g3,HOV4.out,by rw [List.length_append,HQL.out];rfl,HRD2.out,HB4.out⟩
    case measure=>simp [intOf];omega
   ·have HB2:Hid (Below w.heap.size w w2):=HBB.out.trans (hb2.mono (by have:=HZW.out;have:=HS1.out;omega))
    have HNO:Hid (NoHit ls cs v P (min 12 (n - P))):=hno
    clear hb2 hno HOV HBL c0 c1
    go_wp2
    refine bodyPost_ret (v:=.tuple #[.slice none 0 0,.int .i64 (-1),.bool false]) (by simp [results,Tryz.results158,go_sem]) rfl ?_
    rw [HCSE.out]
    exact ⟨HB2.out,.inr ⟨q,P,by rw [HQL.out];exact hlt,HRD.out,HNO.out,rfl⟩⟩
  ·have hkn:k=N:=by omega
   subst hkn
   go_wp2
   refine bodyPost_ret (v:=.tuple #[.slice au k cu,.int .i64 (P:Nat),.bool true]) (by simp [results,Tryz.results158,go_sem]) rfl ?_
   rw [HCSE.out]
   exact ⟨HBB.out,.inl ⟨q,P,_,HQL.out,HRD.out,HOV.out.weak (Nat.le_of_lt HS1.out),rfl⟩⟩
end Go.Proofs.YtaibkchbkedjnaaGreatDoor
