/-
  Codes of one length follow each other: which symbol a reader by counts finds.
-/
import Derived.Test.YthngimdjjmhboaaGreatDoorSyms
import Derived.Test.YthngimdjjmhboaaGreatDoorLGet1
import Derived.Deep.AppendLies
namespace Go.Proofs.YthngimdjjmhboaaGreatDoor
open Go.RowKit
set_option linter.unusedVariables false

def zN (zs:List Int) (s:Int):Nat:=(zs.getD s.toNat 0).toNat
def cst (zs:List Int) (st:Nat × Nat × List Int) (s:Int):Nat × Nat × List Int:=
 (st.1 * 2 ^ (zN zs s - st.2.1)+1,zN zs s,st.2.2.set s.toNat ((st.1 * 2 ^ (zN zs s - st.2.1):Nat):Int))
def crun (zs l:List Int):Nat × Nat × List Int:=l.foldl (cst zs) (0,0,List.replicate zs.length 0)
theorem crun_nil (zs:List Int):crun zs []=(0,0,List.replicate zs.length 0):=rfl
theorem crun_snoc (zs l:List Int) (s:Int):crun zs (l++[s])=cst zs (crun zs l) s:=by simp [crun,List.foldl_append]
theorem crun_len (zs l:List Int):(crun zs l).2.2.length=zs.length:=by
 have:∀ (l:List Int) (st:Nat × Nat × List Int),(l.foldl (cst zs) st).2.2.length=st.2.2.length:=by
  intro l
  induction l with
  | nil=>intro st;rfl
  | cons s l ih=>intro st;rw [List.foldl_cons,ih];simp [cst]
 unfold crun
 rw [this]
 simp
def asc (zs l:List Int):Prop:=l.Pairwise (fun a b=>zN zs a≤zN zs b)
theorem asc_same (zs:List Int) (m:Nat) (l:List Int) (h:∀ a ∈ l,zN zs a=m):asc zs l:=by
 unfold asc
 induction l with
 | nil=>exact List.Pairwise.nil
 | cons a l ih=>
  refine List.Pairwise.cons (fun b hb=>?_) (ih (fun x hx=>h x (by simp [hx])))
  rw [h a (by simp),h b (by simp [hb])]
  exact Nat.le_refl _
theorem zN_at (zs:List Int) (L i:Nat):∀ a ∈ atL zs L i,zN zs a=L:=by
 intro a ha
 obtain ⟨s,rfl,_,h⟩:=atL_mem zs L i a ha
 unfold zN
 rw [Int.toNat_natCast,h]
 simp
theorem zN_sb (zs:List Int) (l:Nat):∀ a ∈ sbL zs l,zN zs a≤l:=by
 intro a ha
 obtain ⟨s,rfl,_,h1,h2⟩:=sbL_mem zs l a ha
 unfold zN
 rw [Int.toNat_natCast]
 omega
theorem asc_sb (zs:List Int) (l:Nat):asc zs (sbL zs l):=by
 induction l with
 | zero=>exact List.Pairwise.nil
 | succ l ih=>
  simp only [sbL]
  refine List.pairwise_append.2 ⟨ih,asc_same zs (l+1) _ (zN_at zs (l+1) _),fun a ha b hb=>?_⟩
  rw [zN_at zs (l+1) _ b hb]
  have:=zN_sb zs l a ha
  omega
theorem asc_part (zs:List Int) (l i:Nat):asc zs (sbL zs l++atL zs (l+1) i):=by
 refine List.pairwise_append.2 ⟨asc_sb zs l,asc_same zs (l+1) _ (zN_at zs (l+1) _),fun a ha b hb=>?_⟩
 rw [zN_at zs (l+1) _ b hb]
 have:=zN_sb zs l a ha
 omega
theorem take_snoc (l:List Int) (t:Nat) (h:t<l.length):l.take (t+1)=l.take t++[l.getD t 0]:=by
 rw [List.take_succ_eq_append_getElem h]
 simp [List.getD_eq_getElem?_getD,List.getElem?_eq_getElem h]
theorem cr_step (nx ln z t:Nat) (hl:ln≤z) (h:nx≤t * 2 ^ ln):nx * 2 ^ (z - ln)≤t * 2 ^ z∧nx * 2 ^ (z - ln)+1≤(t+1) * 2 ^ z:=by
 have h1:nx * 2 ^ (z - ln)≤t * 2 ^ ln * 2 ^ (z - ln):=Nat.mul_le_mul_right _ h
 rw [Nat.mul_assoc,←Nat.pow_add,show ln+(z - ln)=z from by omega] at h1
 have h2:0<2 ^ z:=Nat.pow_pos (by omega)
 rw [Nat.add_mul]
 omega
theorem cr_bound (zs l:List Int) (h:asc zs l) (t:Nat) (ht:t≤l.length):(crun zs (l.take t)).1≤t * 2 ^ (crun zs (l.take t)).2.1∧(t<l.length→(crun zs (l.take t)).2.1≤zN zs (l.getD t 0)):=by
 induction t with
 | zero=>simp [crun_nil]
 | succ t ih=>
  obtain ⟨i1,i2⟩:=ih (by omega)
  rw [take_snoc l t (by omega),crun_snoc]
  simp only [cst]
  refine ⟨(cr_step _ _ _ t (i2 (by omega)) i1).2,fun ht2=>?_⟩
  have hp:=List.pairwise_iff_getElem.1 h t (t+1) (by omega) ht2 (by omega)
  simpa [List.getD_eq_getElem?_getD,List.getElem?_eq_getElem (show t<l.length by omega),List.getElem?_eq_getElem ht2] using hp
theorem cr_full (zs l:List Int) (h:asc zs l):(crun zs l).1≤l.length * 2 ^ (crun zs l).2.1:=by
 have:=(cr_bound zs l h l.length (Nat.le_refl _)).1
 rw [List.take_length] at this
 exact this
theorem cr_ln (zs l:List Int) (m:Nat) (h:∀ a ∈ l,zN zs a≤m):(crun zs l).2.1≤m:=by
 by_cases h0:l=[]
 ·subst h0;simp [crun_nil]
 ·have hl:0<l.length:=List.length_pos_iff.2 h0
  have e:l=l.take (l.length - 1)++[l.getD (l.length - 1) 0]:=by
   rw [←take_snoc l (l.length - 1) (by omega),show l.length - 1+1=l.length from by omega,List.take_length]
  rw [e,crun_snoc]
  simp only [cst]
  exact h _ (getD_mem (by omega))
def cv (zs l:List Int) (L:Nat):Nat:=(crun zs l).1 * 2 ^ (L - (crun zs l).2.1)
theorem cv_double (zs l:List Int) (L:Nat) (h:(crun zs l).2.1≤L):cv zs l (L+1)=cv zs l L * 2:=by
 unfold cv
 rw [show L+1 - (crun zs l).2.1=(L - (crun zs l).2.1)+1 from by omega,Nat.pow_succ,Nat.mul_assoc]
theorem cv_snoc (zs l:List Int) (s:Int) (L:Nat) (h:zN zs s=L):cv zs (l++[s]) L=cv zs l L+1∧(crun zs (l++[s])).2.2=(crun zs l).2.2.set s.toNat (cv zs l L:Nat):=by
 unfold cv
 rw [crun_snoc]
 simp only [cst,h]
 simp
theorem cv_bound (zs l:List Int) (L:Nat) (h:asc zs l) (hl:(crun zs l).2.1≤L) (hL:L≤12) (hn:l.length≤2000):cv zs l L≤8192000:=by
 have h1:=(cr_step _ _ L l.length hl (cr_full zs l h)).1
 have h2:2 ^ L≤2 ^ 12:=Nat.pow_le_pow_right (by omega) hL
 have h3:l.length * 2 ^ L≤2000 * 2 ^ 12:=Nat.mul_le_mul hn h2
 unfold cv
 exact Nat.le_trans h1 (Nat.le_trans h3 (by decide))
theorem cv_nil (zs:List Int):cv zs [] 0=0:=by simp [cv,crun_nil]

structure At (zs:List Int) (M k c:Nat) (out:List Int):Prop where
 c:cv zs (sbL zs (M - 1)++atL zs M k) M=c
 out:(crun zs (sbL zs (M - 1)++atL zs M k)).2.2=out
theorem at_bound {zs:List Int} {M k c:Nat} {out:List Int} (h:At zs M k c out) (hM:1≤M) (hM2:M≤12) (hn:zs.length≤80) (hk:k≤zs.length):c≤8192000∧out.length=zs.length:=by
 obtain ⟨l,rfl⟩:∃ l,M=l+1:=⟨M - 1,by omega⟩
 have hs:=sbL_len zs l
 have ha:=atL_len zs (l+1) k
 have hm:l * zs.length≤11 * 80:=Nat.mul_le_mul (by omega) hn
 refine ⟨?_,by rw [←h.out];exact crun_len zs _⟩
 rw [←h.c]
 refine cv_bound zs _ _ (asc_part zs l k) (cr_ln zs _ _ (fun a ha=>?_)) hM2 (by rw [List.length_append];simp;omega)
 rcases List.mem_append.1 ha with h1 | h1
 ·have:=zN_sb zs l a h1;omega
 ·have:=zN_at zs (l+1) k a h1;omega
theorem at_yes {zs:List Int} {M k c:Nat} {out:List Int} (h:At zs M k c out) (hz:zs.getD k 0=(M:Int)):At zs M (k+1) (c+1) (out.set k ((c:Nat):Int)):=by
 have e:sbL zs (M - 1)++atL zs M (k+1)=(sbL zs (M - 1)++atL zs M k)++[(k:Int)]:=by rw [atL_yes zs M k hz,List.append_assoc]
 have hzn:zN zs (k:Int)=M:=by unfold zN;rw [Int.toNat_natCast,hz];simp
 obtain ⟨s1,s2⟩:=cv_snoc zs (sbL zs (M - 1)++atL zs M k) (k:Int) M hzn
 refine ⟨by rw [e,s1,h.c],?_⟩
 rw [e,s2,h.c,h.out]
 simp
theorem at_no {zs:List Int} {M k c:Nat} {out:List Int} (h:At zs M k c out) (hz:¬zs.getD k 0=(M:Int)):At zs M (k+1) c out:=by
 refine ⟨?_,?_⟩
 ·rw [atL_no zs M k hz];exact h.c
 ·rw [atL_no zs M k hz];exact h.out
theorem at_first (zs:List Int):cv zs (sbL zs 0) 0=0∧(crun zs (sbL zs 0)).2.2=List.replicate zs.length 0:=⟨cv_nil zs,rfl⟩
theorem at_start {zs:List Int} {M c:Nat} {out:List Int} (hM:1≤M) (hc:cv zs (sbL zs (M - 1)) (M - 1)=c) (ho:(crun zs (sbL zs (M - 1))).2.2=out):At zs M 0 (c * 2) out:=by
 obtain ⟨l,rfl⟩:∃ l,M=l+1:=⟨M - 1,by omega⟩
 simp only [Nat.add_sub_cancel] at hc ho
 refine ⟨?_,?_⟩
 ·rw [atL_zero,List.append_nil,Nat.add_sub_cancel,cv_double zs _ l (cr_ln zs _ _ (zN_sb zs l)),hc]
 ·rw [atL_zero,List.append_nil,Nat.add_sub_cancel];exact ho
theorem at_end {zs:List Int} {M c:Nat} {out:List Int} (hM:1≤M) (h:At zs M zs.length c out):cv zs (sbL zs M) M=c∧(crun zs (sbL zs M)).2.2=out:=by
 obtain ⟨l,rfl⟩:∃ l,M=l+1:=⟨M - 1,by omega⟩
 have e:sbL zs (l+1)=sbL zs (l+1 - 1)++atL zs (l+1) zs.length:=rfl
 rw [e]
 exact ⟨h.c,h.out⟩

set_option maxHeartbeats 3200000 in
theorem l2codes_any (a:Option Addr) (cap:Nat) (zs:List Int) (w:World) (hb:Ins w a zs) (hn:zs.length≤80) :
  Calls Tryz.prog 179 #[.slice a zs.length cap] w fun e w'=>
   e=.returned (.slice (some ⟨w.heap.size,0,none⟩) zs.length zs.length)∧OwI w' w.heap.size w.heap.size zs.length (crun zs (sbL zs 12)).2.2∧Below w.heap.size w w':=by
 obtain ⟨i0,hi,hz0,hz1,hz2⟩:=info_parts Tryz.infoI64
 have HAF:Hid _:=at_first zs
 have HAB:Hid _:=fun M k c out (h:At zs M k c out) h1 h2 h3=>at_bound h h1 h2 hn h3
 have HAY:Hid _:=fun M k c out (h:At zs M k c out)=>at_yes h
 have HAN:Hid _:=fun M k c out (h:At zs M k c out)=>at_no h
 have HAS:Hid _:=fun M c out h1 h2 h3=>@at_start zs M c out h1 h2 h3
 have HAE:Hid _:=fun M c out h1 h2=>@at_end zs M c out h1 h2
 generalize hlen:zs.length=n at *
 have HL:Hid (zs.length=n):=hlen
 clear hlen
 go_enter Tryz.func179,Tryz.ntmps179
 go_wp2_with (at_make;refine wpList_make_full _ rfl _ _ 29 rfl w.heap.size 3 i0 (.int .i64 0) 1 Tryz.underlying29 hi hz0 hz1 .i64 .i64 _ _ n rfl rfl rfl rfl (by rw [hz2];omega) (by unfold maxLen;omega) (Nat.le_refl _) ?_;intro w1 hown hgrow)
 have h0:OwI w1 w.heap.size w.heap.size n (List.replicate n 0):=by
  refine ⟨?_,by intro z hz;simp at hz;omega⟩
  rw [made_zeroI] at hown
  simpa using hown
 have hbw:Below w.heap.size w w1:=(Below.refl _ _).grown hgrow (Nat.le_refl _) (by intro k hk;cases hk)
 have H0:Hid (OwI w1 w.heap.size w.heap.size n (List.replicate n 0)):=h0
 clear h0 hown hgrow hi hz0 hz1 hz2
 go_loopw [4,5] (fun x l wr=>∃ (M c:Nat) (y:Int) (out:List Int),y=M∧1≤M∧M≤13∧l=.int .i64 y∧x=.int .i64 c∧c≤8192000∧cv zs (sbL zs (M - 1)) (M - 1)=c∧(crun zs (sbL zs (M - 1))).2.2=out∧OwI wr w.heap.size w.heap.size n out∧Below w.heap.size w wr) (fun _ l _=>13 - (intOf l).toNat)
 case atStart=>exact ⟨1,0,1,List.replicate n 0,rfl,by omega,by omega,rfl,rfl,by omega,HAF.out.1,HAF.out.2,H0.out,hbw⟩
 case round=>
  clear H0 hbw
  obtain ⟨M,c,y,out,hy,hM1,hM,rfl,rfl,hc,hcv,hout,hown,hbel⟩:=hrel
  have HMY:Hid (y=(M:Int)):=hy
  have HM1:Hid (1≤M∧M≤13):=⟨hM1,hM⟩
  have HCV:Hid (cv zs (sbL zs (M - 1)) (M - 1)=c∧(crun zs (sbL zs (M - 1))).2.2=out):=⟨hcv,hout⟩
  have HO:Hid (OwI wr w.heap.size w.heap.size n out):=hown
  have hy1:1≤y∧y≤13:=by omega
  clear hy hM1 hM hcv hout hown
  by_cases hL12:y≤12
  ·have HAT:Hid (At zs M 0 (c * 2) out):=HAS.out M c out HM1.out.1 HCV.out.1 HCV.out.2
   have hM12:M≤12:=by have:=HMY.out;omega
   have HM12:Hid (M≤12):=hM12
   clear hM12 HCV
   have HBL:Hid (Below w.heap.size w wr):=hbel
   clear hbel
   go_wp2
   go_loopw [4,6] (fun x i wi=>∃ (k d:Nat) (o2:List Int),k≤n∧i=.int .i64 k∧x=.int .i64 d∧At zs M k d o2∧OwI wi w.heap.size w.heap.size n o2∧Below w.heap.size w wi) (fun _ i _=>n - (intOf i).toNat)
   case atStart=>exact ⟨0,c * 2,out,Nat.zero_le _,rfl,by go_num,HAT.out,HO.out,HBL.out⟩
   case round=>
    clear HAT HO HBL
    obtain ⟨k,d,o2,hk,rfl,rfl,hat,hown,hbel⟩:=hrel
    have HAT:Hid (At zs M k d o2):=hat
    have HO:Hid (OwI wr w.heap.size w.heap.size n o2):=hown
    obtain ⟨hd,hol⟩:=HAB.out M k d o2 hat HM1.out.1 HM12.out (by omega)
    clear hat hown
    by_cases hlt:k<n
    ·obtain ⟨b1,o1,rfl,hb1,hc1⟩:=(hb.below hbel (Nat.le_refl _)).len_pos k (by rw [HL.out];exact hlt)
     have hs1:=hc1 k (by rw [HL.out];exact hlt)
     have g1:=getD_rngI hb.1 k
     have HY:=HAY.out M k d o2 HAT.out
     have HN:=HAN.out M k d o2 HAT.out
     clear hc1
     generalize zs.getD k 0=x at *
     by_cases hx:x=y
     ·have HA2:Hid (At zs M (k+1) (d+1) (o2.set k ((d:Nat):Int))):=HY (hx.trans HMY.out)
      subst hx
      have hdst:=HO.out.cell k (by rw [hol];exact hlt)
      have hfz:=HO.out.frozen k
      have hdr:-9223372036854775808≤((d:Nat):Int)∧((d:Nat):Int)≤9223372036854775807:=by omega
      have HR:Hid (OwI (wr.setCell ⟨w.heap.size,k,none⟩ (.int .i64 (d:Nat))) w.heap.size w.heap.size n (o2.set k ((d:Nat):Int))):=HO.out.store k ((d:Nat):Int) hdr
      have HB:Hid (Below w.heap.size w (wr.setCell ⟨w.heap.size,k,none⟩ (.int .i64 (d:Nat)))):=hbel.setCell (p:=⟨w.heap.size,k,none⟩) (Nat.le_refl _) _
      clear HY HN HO hbel hol hdr
      generalize o2.getD k 0=old at *
      go_wp2
      go_roundw
      case rel=>exact ⟨k+1,d+1,_,by omega,by go_num,by go_num,HA2.out,by simpa using HR.out,by simpa using HB.out⟩
      case measure=>simp [intOf];omega
     ·have HA2:Hid (At zs M (k+1) d o2):=HN (fun h=>hx (h.trans HMY.out.symm))
      have hxx:(x == y)=false:=by simpa using hx
      clear HY HN hx hol
      go_wp2
      go_roundw
      case rel=>exact ⟨k+1,d,o2,by omega,by go_num,rfl,HA2.out,HO.out,hbel⟩
      case measure=>simp [intOf];omega
    ·have hkn:k=n:=by omega
     subst hkn
     have HE:=HAE.out M d o2 HM1.out.1 HAT.out
     have HE1:Hid _:=HE
     clear HE hol
     go_wp2
     go_roundw
     case rel=>exact ⟨M+1,d,y+1,o2,by have:=HMY.out;omega,by omega,by have:=HM12.out;omega,by go_num,rfl,hd,HE1.out.1,HE1.out.2,HO.out,hbel⟩
     case measure=>simp [intOf];omega
  ·have hLe:M=13:=by have:=HMY.out;have:=HM1.out;omega
   subst hLe
   have HA:Hid (OwI wr w.heap.size w.heap.size n (crun zs (sbL zs 12)).2.2):=by have h:(crun zs (sbL zs 12)).2.2=out:=HCV.out.2;rw [h];exact HO.out
   clear HO HCV
   go_wp2
   go_ret
   exact ⟨rfl,HA.out,hbel⟩
theorem OVI.stay {S:Nat→Prop} {w w':World} {B:Nat} {v:Value} {zs:List Int} (h:OVI w B v zs) (ho:Only S w w') (hs:∀ k,B≤k→¬S k):OVI w' B v zs:=by
 refine ⟨⟨h.1.1,?_⟩,h.2⟩
 rcases h.1.2 with h' | ⟨g,cap,cur,h',hg,hh,r⟩
 ·exact .inl h'
 ·exact .inr ⟨g,cap,cur,h',hg,(ho.block g (Array.getElem?_eq_some_iff.1 hh).1 (hs g hg)).trans hh,r⟩

theorem OVI.weak {w:World} {B B':Nat} {v:Value} {zs:List Int} (h:OVI w B v zs) (hB:B'≤B):OVI w B' v zs:=by
 refine ⟨⟨h.1.1,?_⟩,h.2⟩
 rcases h.1.2 with h' | ⟨g,cap,cur,h',hg,r⟩
 ·exact .inl h'
 ·exact .inr ⟨g,cap,cur,h',by omega,r⟩

def One (ls cs:List Int) (n v p i k:Nat):Prop:=1≤k∧k≤12∧p+k≤n∧i<ls.length∧Hit ls cs v p k i∧(∀ j,j<i→¬Hit ls cs v p k j)∧NoHit ls cs v p (k - 1)
inductive Reads (ls cs:List Int) (n v p:Nat):List Int→Nat→Prop
 | nil:Reads ls cs n v p [] p
 | snoc {q:List Int} {e i k:Nat}:Reads ls cs n v p q e→One ls cs n v e i k→Reads ls cs n v p (q++[(i:Int)]) (e+k)

set_option maxRecDepth 20000 in
set_option maxHeartbeats 4000000 in
theorem l2get_any (a:Option Addr) (ca:Nat) (ls:List Int) (x:Option Addr) (cx:Nat) (zs:List Int) (n v p N:Nat) (w:World) (ha:Ins w a ls) (hx:Byt w x zs) (hz:zs=enc n v) (hn:n≤4104) (hp:p≤n) (hl:ls.length≤80) (hN:N≤300) :
  Calls Tryz.prog 158 #[.slice a ls.length ca,.agg #[.slice x zs.length cx,.int .i64 n],.int .i64 p,.int .i64 N] w fun e w'=>Below w.heap.size w w' ∧
   ((∃ q E u,q.length=N∧Reads ls (crun ls (sbL ls 12)).2.2 n v p q E∧OVI w' w.heap.size u q∧e=.returned (.tuple #[u,.int .i64 (E:Nat),.bool true])) ∨
    (∃ q E,q.length<N∧Reads ls (crun ls (sbL ls 12)).2.2 n v p q E∧NoHit ls (crun ls (sbL ls 12)).2.2 v E (min 12 (n - E))∧e=.returned (.tuple #[.slice none 0 0,.int .i64 (-1),.bool false]))):=by
 obtain ⟨i0,hi,hz0,hz1,hz2⟩:=info_parts Tryz.infoI64
 have hw:Below w.heap.size w (w.alloc (Obj.cells #[Value.slice x zs.length cx,Value.int IntKind.i64 n] 155)):=(Below.refl _ _).alloc (Nat.le_refl _) _
 have r0:(w.alloc (Obj.cells #[Value.slice x zs.length cx,Value.int IntKind.i64 n] 155)).cell? ⟨w.heap.size,0,none⟩=some (.slice x zs.length cx):=by simp
 have r1:(w.alloc (Obj.cells #[Value.slice x zs.length cx,Value.int IntKind.i64 n] 155)).cell? ⟨w.heap.size,1,none⟩=some (.int .i64 n):=by simp
 have HSZ:Hid (w.heap.size<(w.alloc (Obj.cells #[Value.slice x zs.length cx,Value.int IntKind.i64 n] 155)).heap.size):=by simp [Hid]
 have HLC:=l2codes_any a ca ls _ (ha.below hw (Nat.le_refl _)) hl
 have HCL:Hid _:=crun_len ls (sbL ls 12)
 have HZ:Hid (zs=enc n v):=hz
 clear hz
 go_enter Tryz.func158,Tryz.ntmps158
 go_wp2_with fail
 generalize w.alloc (Obj.cells #[Value.slice x zs.length cx,Value.int IntKind.i64 n] 155)=W at *
 refine HLC.mono ?_
 clear HLC
 rintro e w1 ⟨rfl,hc1,hb1⟩
 have hbw1:Below w.heap.size w w1:=hw.trans (hb1.mono (Nat.le_of_lt HSZ.out))
 have HBW:Hid (Below w.heap.size w w1):=hbw1
 have HA:Hid (Ins w1 a ls):=ha.below hbw1 (Nat.le_refl _)
 have HX:Hid (Byt w1 x zs):=hx.below hbw1 (Nat.le_refl _)
 have HCC:Hid (Ins w1 (some ⟨W.heap.size,0,none⟩) (crun ls (sbL ls 12)).2.2):=hc1.byt
 have HR:Hid (w1.cell? ⟨w.heap.size,0,none⟩=some (.slice x zs.length cx)∧w1.cell? ⟨w.heap.size,1,none⟩=some (.int .i64 n)):=⟨keep hb1 HSZ.out r0,keep hb1 HSZ.out r1⟩
 have HS1:Hid (w.heap.size<w1.heap.size):=by have:=HSZ.out;have:=hb1.size;unfold Hid;omega
 clear hw r0 r1 HSZ hc1 hb1 hbw1 ha hx
 generalize W.heap.size=gc at *
 generalize hcs0:(crun ls (sbL ls 12)).2.2=cs at *
 have HCSE:Hid ((crun ls (sbL ls 12)).2.2=cs):=hcs0
 clear hcs0
 generalize hB:w1.heap.size=B at *
 have HB:Hid (w1.heap.size=B):=hB
 clear hB
 go_wp2
 go_loopw [2,12,13] (fun t o i wr=>∃ (k:Nat) (q:List Int) (P:Nat),k≤N∧i=.int .i64 k∧t=.int .i64 P∧P≤n∧OVI wr B o q∧q.length=k∧Reads ls cs n v p q P∧Below B w1 wr) (fun _ _ i _=>N - (intOf i).toNat)
 case atStart=>exact ⟨0,[],p,Nat.zero_le _,rfl,rfl,hp,OVI.nil _ _,rfl,.nil,Below.refl _ _⟩
 case round=>
  obtain ⟨k,q,P,hk,rfl,rfl,hP,hov,hql,hrd,hbel⟩:=hrel
  obtain ⟨au,cu,rfl⟩:=hov.form
  have HQL:Hid (q.length=k):=hql
  rw [hql] at hov ⊢
  have HOV:Hid (OVI wr B (.slice au k cu) q):=hov
  have HRD:Hid (Reads ls cs n v p q P):=hrd
  have HBL:Hid (Below B w1 wr):=hbel
  have c0:=keep hbel HS1.out HR.out.1
  have c1:=keep hbel HS1.out HR.out.2
  have HBB:Hid (Below w.heap.size w wr):=HBW.out.trans (hbel.mono (Nat.le_of_lt HS1.out))
  have HZW:Hid (B≤wr.heap.size):=by have:=hbel.size;have:=HB.out;unfold Hid;omega
  clear hov hql hrd hbel
  by_cases hlt:k<N
  ·have HONE:=l2one_any a ca ls (some ⟨gc,0,none⟩) ls.length cs x cx zs n v P wr (HA.out.below HBL.out (by rw [HB.out];exact Nat.le_refl _)) (HCC.out.below HBL.out (by rw [HB.out];exact Nat.le_refl _)) (HX.out.below HBL.out (by rw [HB.out];exact Nat.le_refl _)) HZ.out hn hP hl HCL.out
   go_wp2_with fail
   refine HONE.mono ?_
   clear HONE
   rintro e w2 ⟨hb2,⟨m,i,g1,g2,g3,g4,g5,g6,g7,rfl⟩ | ⟨hno,rfl⟩⟩
   ·have HB2:Hid (Below B w1 w2):=HBL.out.trans (hb2.mono HZW.out)
    have HOV2:Hid (OVI w2 B (.slice au k cu) q):=HOV.out.stay (Only.ofBelow (S:=fun _=>False) hb2 (Nat.le_refl _)) (by simp)
    have HRD2:Hid (Reads ls cs n v p (q++[(i:Int)]) (P+m)):=.snoc HRD.out ⟨g1,g2,g3,g4,g5,g6,g7⟩
    have hz3:B≤w2.heap.size:=Nat.le_trans HZW.out hb2.size
    have hu:w2.ownsRow B 3 1 (.slice au k cu) k (q.map (Value.int .i64)):=by have:=HOV2.out.1;rw [HQL.out] at this;exact this
    clear hb2 g5 g6 g7 HRD HOV HBL c0 c1
    generalize P+m=P2 at *
    generalize hiz:(i:Int)=iz at *
    have hir:0≤iz∧iz≤80:=by omega
    clear hiz g1 g2 g4
    have HN3:Hid (k+1≤300):=by unfold Hid;omega
    have hk3:k+1≤300:=HN3.out
    clear hN hn hl hp hP
    go_wp2_with (at_builtin;(refine wpList_append_lies _ rfl (.tmp 33) (.tmp 35) 29 rfl B 3 i0 (.int .i64 0) 1 8 Tryz.underlying29 hi hz0 hz1 hz2 rfl (by decide) (.slice au k cu) k (q.map (Value.int .i64)) rfl (hu.alloc _) ⟨w2.heap.size,0,none⟩ 1 1 [.int .i64 iz] rfl rfl (by intro j y hj;match j,hj with | 0,hj=>(simp at hj;subst hj;simp [Addr.add])) (by intro y hy;simp at hy;subst hy;rfl) (by have:=HN3.out;omega) (by have:=HN3.out;unfold maxLen;omega) (by have:=HN3.out;omega) (by simp;omega) _ rfl ?_);intro g cap1 w4 hown hgrow hat hlt1)
    have HOV4:Hid (OVI w4 B (.slice (some ⟨g,0,none⟩) (k+1) cap1) (q++[iz])):=OVI.app HQL.out HOV2.out.2 (by omega) hown
    have HB4:Hid (Below B w1 w4):=app_below HB2.out hz3 HOV2.out hgrow
    clear hown hgrow hat hlt1 HOV2 HB2 hu
    go_wp2
    go_roundw
    case rel=>exact ⟨k+1,q++[iz],P2,by omega,by go_num,rfl,g3,HOV4.out,by rw [List.length_append,HQL.out];rfl,HRD2.out,HB4.out⟩
    case measure=>simp [intOf];omega
   ·have HB2:Hid (Below w.heap.size w w2):=HBB.out.trans (hb2.mono (by have:=HZW.out;have:=HS1.out;omega))
    have HNO:Hid (NoHit ls cs v P (min 12 (n - P))):=hno
    clear hb2 hno HOV HBL c0 c1
    go_wp2
    refine bodyPost_ret (v:=.tuple #[.slice none 0 0,.int .i64 (-1),.bool false]) (by simp [results,Tryz.results158,go_sem]) rfl ?_
    rw [HCSE.out]
    exact ⟨HB2.out,.inr ⟨q,P,by rw [HQL.out];exact hlt,HRD.out,HNO.out,rfl⟩⟩
  ·have hkn:k=N:=by omega
   subst hkn
   go_wp2
   refine bodyPost_ret (v:=.tuple #[.slice au k cu,.int .i64 (P:Nat),.bool true]) (by simp [results,Tryz.results158,go_sem]) rfl ?_
   rw [HCSE.out]
   exact ⟨HBB.out,.inl ⟨q,P,_,HQL.out,HRD.out,HOV.out.weak (Nat.le_of_lt HS1.out),rfl⟩⟩
end Go.Proofs.YthngimdjjmhboaaGreatDoor
namespace Go.Proofs.YthngimdjjmhboaaGreatDoor
set_option linter.unusedVariables false

theorem One.no {ls cs:List Int} {n v p i k:Nat} (h:One ls cs n v p i k) (hn:NoHit ls cs v p (min 12 (n - p))):False:=by
 obtain ⟨h1,h2,h3,h4,h5,_⟩:=h
 exact hn k i h1 (by omega) h4 h5
theorem One.unique {ls cs:List Int} {n v p i k i' k':Nat} (h:One ls cs n v p i k) (h':One ls cs n v p i' k'):i=i'∧k=k':=by
 obtain ⟨h1,h2,h3,h4,h5,h6,h7⟩:=h
 obtain ⟨g1,g2,g3,g4,g5,g6,g7⟩:=h'
 have hk:k=k':=by
  rcases Nat.lt_trichotomy k k' with hh | hh | hh
  ·exact absurd h5 (g7 k i h1 (by omega) h4)
  ·exact hh
  ·exact absurd g5 (h7 k' i' g1 (by omega) g4)
 subst hk
 refine ⟨?_,rfl⟩
 rcases Nat.lt_trichotomy i i' with hh | hh | hh
 ·exact absurd h5 (g6 i hh)
 ·exact hh
 ·exact absurd g5 (h6 i' hh)
theorem Reads.unique {ls cs:List Int} {n v p:Nat} {q:List Int} {E:Nat} (h:Reads ls cs n v p q E):∀ {q':List Int} {E':Nat},Reads ls cs n v p q' E'→q.length=q'.length→q=q'∧E=E':=by
 induction h with
 | nil=>
  intro q' E' h' hl
  cases h' with
  | nil=>exact ⟨rfl,rfl⟩
  | snoc h1 h2=>simp at hl
 | @snoc q e i k h1 h2 ih=>
  intro q' E' h' hl
  cases h' with
  | nil=>simp at hl
  | @snoc q2 e2 i2 k2 g1 g2=>
   obtain ⟨rfl,rfl⟩:=ih g1 (by simpa using hl)
   obtain ⟨rfl,rfl⟩:=h2.unique g2
   exact ⟨rfl,rfl⟩
theorem Reads.cut {ls cs:List Int} {n v p:Nat} {q:List Int} {E:Nat} (h:Reads ls cs n v p q E):∀ m,m<q.length→∃ e i k,Reads ls cs n v p (q.take m) e∧One ls cs n v e i k:=by
 induction h with
 | nil=>intro m hm;simp at hm
 | @snoc q e i k h1 h2 ih=>
  intro m hm
  by_cases hh:m<q.length
  ·obtain ⟨e',i',k',a,b⟩:=ih m hh
   exact ⟨e',i',k',by rw [List.take_append_of_le_length (by omega)];exact a,b⟩
  ·have:m=q.length:=by simp at hm;omega
   subst this
   exact ⟨e,i,k,by simpa using h1,h2⟩
theorem Reads.stuck {ls cs:List Int} {n v p:Nat} {q:List Int} {E:Nat} (h:Reads ls cs n v p q E) {q':List Int} {E':Nat} (h':Reads ls cs n v p q' E') (hl:q'.length<q.length) (hn:NoHit ls cs v E' (min 12 (n - E'))):False:=by
 obtain ⟨e,i,k,a,b⟩:=h.cut q'.length hl
 obtain ⟨-,rfl⟩:=a.unique h' (by simp;omega)
 exact b.no hn
theorem Reads.le {ls cs:List Int} {n v p:Nat} {q:List Int} {E:Nat} (h:Reads ls cs n v p q E) (hp:p≤n):E≤n:=by
 induction h with
 | nil=>exact hp
 | snoc h1 h2 ih=>exact h2.2.2.1
end Go.Proofs.YthngimdjjmhboaaGreatDoor
namespace Go.Proofs.YthngimdjjmhboaaGreatDoor
set_option linter.unusedVariables false

theorem atL_split (zs:List Int) (L k n:Nat) (h:k≤n):∃ r,atL zs L n=atL zs L k++r∧∀ t ∈ r,(k:Int)≤t:=by
 induction n with
 | zero => obtain rfl : k = 0 := by omega
           exact ⟨[],by simp,by simp⟩
 | succ n ih=>
  by_cases hk:k≤n
  ·obtain ⟨r,h1,h2⟩:=ih hk
   by_cases hz:zs.getD n 0=(L:Int)
   ·refine ⟨r++[(n:Int)],by rw [atL_yes zs L n hz,h1,List.append_assoc],fun t ht=>?_⟩
    rcases List.mem_append.1 ht with h | h
    ·exact h2 t h
    ·simp at h;omega
   ·exact ⟨r,by rw [atL_no zs L n hz];exact h1,h2⟩
  ·obtain rfl:k=n+1:=by omega
   exact ⟨[],by simp,by simp⟩
theorem atL_mono (zs:List Int) (L k n:Nat) (h:k≤n):(atL zs L k).length≤(atL zs L n).length:=by
 obtain ⟨r,h1,_⟩:=atL_split zs L k n h
 rw [h1,List.length_append]
 omega
theorem sbL_split (zs:List Int) (l m:Nat) (h:l≤m):∃ r,sbL zs m=sbL zs l++r∧∀ t ∈ r,∃ s:Nat,t=s∧(l:Int)<zs.getD s 0:=by
 induction m with
 | zero => obtain rfl : l = 0 := by omega
           exact ⟨[],by simp,by simp⟩
 | succ m ih=>
  by_cases hk:l≤m
  ·obtain ⟨r,h1,h2⟩:=ih hk
   refine ⟨r++atL zs (m+1) zs.length,by simp only [sbL];rw [h1,List.append_assoc],fun t ht=>?_⟩
   rcases List.mem_append.1 ht with h | h
   ·exact h2 t h
   ·obtain ⟨s,g1,g2,g3⟩:=atL_mem _ _ _ t h
    exact ⟨s,g1,by omega⟩
  ·obtain rfl:l=m+1:=by omega
   exact ⟨[],by simp,by simp⟩
theorem cst_keep (zs:List Int) (s:Nat) (l:List Int):∀ st:Nat × Nat × List Int,(∀ t ∈ l,t.toNat≠s)→(l.foldl (cst zs) st).2.2.getD s 0=st.2.2.getD s 0:=by
 induction l with
 | nil=>intro st _;rfl
 | cons t l ih=>
  intro st h
  rw [List.foldl_cons,ih _ (fun x hx=>h x (by simp [hx]))]
  have:=h t (by simp)
  simp only [cst,List.getD_eq_getElem?_getD,List.getElem?_set_ne this]
theorem crun_keep (zs l r:List Int) (s:Nat) (h:∀ t ∈ r,t.toNat≠s):(crun zs (l++r)).2.2.getD s 0=(crun zs l).2.2.getD s 0:=by
 unfold crun
 rw [List.foldl_append]
 exact cst_keep zs s r _ h
def fcd (zs:List Int) (M:Nat):Nat:=cv zs (sbL zs (M - 1)) M
theorem cv_run (zs:List Int) (M k:Nat):cv zs (sbL zs (M - 1)++atL zs M k) M=fcd zs M+(atL zs M k).length:=by
 induction k with
 | zero=>simp [atL_zero,fcd]
 | succ k ih=>
  by_cases hz:zs.getD k 0=(M:Int)
  ·have hzn:zN zs (k:Int)=M:=by unfold zN;rw [Int.toNat_natCast,hz];simp
   rw [atL_yes zs M k hz,←List.append_assoc,(cv_snoc zs _ (k:Int) M hzn).1,ih]
   simp
   omega
  ·rw [atL_no zs M k hz];exact ih
theorem code_at (zs:List Int) (M s:Nat) (h1:1≤M) (h2:M≤12) (hs:s<zs.length) (hz:zs.getD s 0=(M:Int)):(crun zs (sbL zs 12)).2.2.getD s 0=((fcd zs M+(atL zs M s).length:Nat):Int):=by
 obtain ⟨r,e1,m1⟩:=sbL_split zs M 12 h2
 obtain ⟨r2,e2,m2⟩:=atL_split zs M (s+1) zs.length hs
 have e3:sbL zs M=sbL zs (M - 1)++atL zs M zs.length:=by
  obtain ⟨l,rfl⟩:∃ l,M=l+1:=⟨M - 1,by omega⟩
  rfl
 have e4:sbL zs 12=((sbL zs (M - 1)++atL zs M s)++[(s:Int)])++(r2++r):=by
  rw [e1,e3,e2,atL_yes zs M s hz]
  simp
 have hzn:zN zs (s:Int)=M:=by unfold zN;rw [Int.toNat_natCast,hz];simp
 rw [e4,crun_keep,(cv_snoc zs _ (s:Int) M hzn).2,cv_run]
 ·rw [Int.toNat_natCast,List.getD_eq_getElem?_getD,List.getElem?_set_self (by rw [crun_len];exact hs)]
  rfl
 ·intro t ht
  rcases List.mem_append.1 ht with h | h
  ·have:=m2 t h;omega
  ·obtain ⟨y,rfl,hy⟩:=m1 t h
   rw [Int.toNat_natCast]
   rintro rfl
   omega
theorem at_rank (zs:List Int) (M:Nat):∀ n j,j<(atL zs M n).length→∃ s:Nat,(atL zs M n).getD j 0=s∧s<n∧zs.getD s 0=(M:Int)∧(atL zs M s).length=j:=by
 intro n
 induction n with
 | zero=>intro j hj;simp [atL_zero] at hj
 | succ n ih=>
  intro j hj
  by_cases hz:zs.getD n 0=(M:Int)
  ·rw [atL_yes zs M n hz] at hj ⊢
   by_cases hjn:j<(atL zs M n).length
   ·obtain ⟨s,g1,g2,g3,g4⟩:=ih j hjn
    refine ⟨s,?_,by omega,g3,g4⟩
    rw [List.getD_eq_getElem?_getD,List.getElem?_append_left hjn,←List.getD_eq_getElem?_getD]
    exact g1
   ·have hje:j=(atL zs M n).length:=by simp at hj;omega
    refine ⟨n,?_,by omega,hz,hje.symm⟩
    rw [hje]
    simp [List.getD_eq_getElem?_getD]
  ·rw [atL_no zs M n hz] at hj ⊢
   obtain ⟨s,g1,g2,g3,g4⟩:=ih j hj
   exact ⟨s,g1,by omega,g3,g4⟩
structure Sy (ls:List Int) (v p k:Nat) (c f a:Nat):Prop where
 hc:c=cd v p k
 hf:f=cv ls (sbL ls k) k
 ha:a=(sbL ls k).length
 le:f≤c
 no:NoHit ls (crun ls (sbL ls 12)).2.2 v p k
theorem sy_zero (ls:List Int) (v p:Nat):Sy ls v p 0 0 0 0:=⟨rfl,(cv_nil ls).symm,rfl,Nat.le_refl _,fun j i h1 h2=>by omega⟩
theorem fcd_succ (ls:List Int) (k:Nat):fcd ls (k+1)=2 * cv ls (sbL ls k) k:=by
 unfold fcd
 rw [Nat.add_sub_cancel,cv_double ls _ k (cr_ln ls _ _ (zN_sb ls k)),Nat.mul_comm]
theorem cv_full (ls:List Int) (k:Nat):cv ls (sbL ls (k+1)) (k+1)=fcd ls (k+1)+(atL ls (k+1) ls.length).length:=cv_run ls (k+1) ls.length
theorem sy_next {ls:List Int} {v p k c f a b:Nat} (h:Sy ls v p k c f a) (hk:k<12) (hb:b=v / 2 ^ (p+k) % 2) (hn:¬2 * c+b - 2 * f<(atL ls (k+1) ls.length).length) :
  Sy ls v p (k+1) (2 * c+b) (2 * f+(atL ls (k+1) ls.length).length) (a+(atL ls (k+1) ls.length).length):=by
 have hc:2 * c+b=cd v p (k+1):=by simp only [cd];rw [hb,h.hc]
 have hf:2 * f+(atL ls (k+1) ls.length).length=cv ls (sbL ls (k+1)) (k+1):=by rw [cv_full,fcd_succ,←h.hf]
 have hle:=h.le
 refine ⟨hc,hf,by rw [h.ha];simp only [sbL,List.length_append],by omega,fun j i h1 h2 h3 hh=>?_⟩
 by_cases hj:j=k+1
 ·subst hj
  obtain ⟨g1,g2⟩:=hh
  have g3:=code_at ls (k+1) i h1 (by omega) h3 g1
  rw [g3] at g2
  have g4:=atL_yes ls (k+1) i g1
  have g5:=atL_mono ls (k+1) (i+1) ls.length h3
  rw [g4,List.length_append] at g5
  simp only [List.length_singleton] at g5
  have g6:=fcd_succ ls k
  rw [←h.hf] at g6
  omega
 ·exact h.no j i h1 (by omega) h3 hh
theorem sy_hit {ls:List Int} {n v p k c f a b:Nat} (h:Sy ls v p k c f a) (hk:k<12) (hp:p+k<n) (hb:b=v / 2 ^ (p+k) % 2) (hn:2 * c+b - 2 * f<(atL ls (k+1) ls.length).length) :
  ∃ s:Nat,(sbL ls 12).getD (a+(2 * c+b - 2 * f)) 0=s∧s<ls.length∧a+(2 * c+b - 2 * f)<(sbL ls 12).length∧One ls (crun ls (sbL ls 12)).2.2 n v p s (k+1):=by
 have hc:2 * c+b=cd v p (k+1):=by simp only [cd];rw [hb,h.hc]
 have hle:=h.le
 have g6:=fcd_succ ls k
 rw [←h.hf] at g6
 obtain ⟨s,g1,g2,g3,g4⟩:=at_rank ls (k+1) ls.length _ hn
 obtain ⟨r,e1,_⟩:=sbL_split ls (k+1) 12 hk
 have e2:sbL ls 12=sbL ls k++(atL ls (k+1) ls.length++r):=by rw [e1];simp only [sbL];rw [List.append_assoc]
 have hca:=code_at ls (k+1) s (by omega) (by omega) g2 g3
 refine ⟨s,?_,g2,?_,by omega,by omega,by omega,g2,⟨g3,?_⟩,?_,h.no⟩
 ·rw [e2,h.ha,List.getD_eq_getElem?_getD,List.getElem?_append_right (by omega),Nat.add_sub_cancel_left,List.getElem?_append_left hn,←List.getD_eq_getElem?_getD]
  exact g1
 ·rw [e2,h.ha]
  simp only [List.length_append]
  omega
 ·rw [hca,←hc]
  omega
 ·rintro j hj ⟨q1,q2⟩
  have q3:=code_at ls (k+1) j (by omega) (by omega) (by omega) q1
  rw [q3] at q2
  have q4:=atL_yes ls (k+1) j q1
  have q5:=atL_mono ls (k+1) (j+1) s hj
  rw [q4,List.length_append] at q5
  simp only [List.length_singleton] at q5
  omega
theorem sy_bound {ls:List Int} {v p k c f a:Nat} (h:Sy ls v p k c f a) (hk:k≤12) (hl:ls.length≤80):c≤4096∧f≤4096∧a≤960:=by
 have h1:=cd_lt v p k
 have h2:2 ^ k≤2 ^ 12:=Nat.pow_le_pow_right (by omega) hk
 have h3:=sbL_len ls k
 have h4:k * ls.length≤12 * 80:=Nat.mul_le_mul hk hl
 have h5:=h.hc;have h6:=h.le;have h7:=h.ha
 omega
end Go.Proofs.YthngimdjjmhboaaGreatDoor
