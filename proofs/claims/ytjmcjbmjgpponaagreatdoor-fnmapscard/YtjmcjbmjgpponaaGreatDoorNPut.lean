import Derived.Test.YtjmcjbmjgpponaaGreatDoorSp3
set_option maxRecDepth 20000
set_option maxHeartbeats 16000000
namespace Go.Proofs.YtjmcjbmjgpponaaGreatDoor
open Go.RowKit
set_option linter.unusedVariables false
def bl (n:Nat):Nat:=if n=0 then 0 else Nat.log2 n+1
theorem z6l :∀ n,n<256->n<2 ^ bl n/\(∀ k,k<9->k<bl n->2 ^ k<=n)/\bl n<=8/\(n<=64->bl n<=7):=by decide +kernel
theorem zgc (n:Nat) (h:n<256):n<2 ^ bl n:=(z6l n h).1
theorem zgu (n k:Nat) (h:n<256) (hk:k<bl n):2 ^ k<=n:=(z6l n h).2.1 k (by have:=(z6l n h).2.2.1;omega) hk
theorem zqs (n:Nat) (h:n<256):bl n<=8:=(z6l n h).2.2.1
theorem z5x (n:Nat) (h:n<=64):bl n<=7:=(z6l n (by omega)).2.2.2 h
theorem z6t :bl 0=0:=rfl
set_option maxRecDepth 100000 in
theorem zjx (x:Int) (w:World) (h0:0<=x) (h:x<256) :
  Calls Tryz.prog 210 #[.int .u64 x] w fun e w'=>e=.returned (.int .i64 (bl x.toNat:Nat))/\w'=w:=by
 generalize hy:((bl x.toNat:Nat):Int)=y;have HY:Hid (((bl x.toNat:Nat):Int)=y):=hy;clear hy
 go_enter Tryz.func210,Tryz.ntmps210
 go_wp2
 go_ret;refine ⟨z70 ?_,rfl⟩;rw [<-HY.out];have hn:x.toNat<256:=by omega
 have e:∀ (n:Nat) (S:ByteArray) (h:n<S.size),S[n]=S.data.toList.getD n 0:=by
  intro n S h
  have h':n<S.data.toList.length:=by simpa using h
  rw [List.getD_eq_getElem?_getD,List.getElem?_eq_getElem h']
  rfl
 rw [e];generalize x.toNat=n at *
 revert hn
 clear HY e
 revert n
 decide +kernel
theorem zje (n:Nat) (w:World) (h:n<256) :
  Calls Tryz.prog 210 #[.int .u64 (n:Int)] w fun e w'=>e=.returned (.int .i64 (bl n:Nat))/\w'=w:=by
 have:=zjx (n:Int) w (by omega) (by omega)
 simpa using this
theorem zfd (n:Nat) (w:World) (h:n<256) :
  Calls Tryz.prog 189 #[.int .u64 (n:Int)] w fun e w'=>e=.returned (.int .i64 (bl n:Nat))/\w'=w:=by
 go_enter Tryz.func189,Tryz.ntmps189
 go_wp2_with fail
 refine (zje n w h).mono ?_;rintro e w1 ⟨rfl,rfl⟩;go_wp2;go_ret;exact ⟨rfl,rfl⟩
def ArI (w:World) (B U:Nat) (a:Option Addr) (zs:List Int):Prop:=
 (∀ z ∈ zs,-9223372036854775808<=z/\z<=9223372036854775807)/\((a=none/\zs=[])\/∃ g T,a=some ⟨g,0,none⟩/\B<=g/\g<U/\w.heap[g]?=some (.cells (zs.map (Value.int .i64)).toArray T (0,0)))
theorem z1s {w:World} {g:Nat} {T:TypeId} {tb:List Int} (h:w.heap[g]?=some (.cells (tb.map (Value.int .i64)).toArray T (0,0))) (x:Nat) (hx:x<tb.length):w.cell? ⟨g,x,none⟩=some (.int .i64 (tb.getD x 0)):=by
 rw [cell_of_row _ _ x _ _ _ h]
 simp [List.getD_eq_getElem?_getD,hx]
section
variable {w W W' : World} {B U B' U' : Nat} {a : Option Addr} {zs : List Int}
end
def zer (n:Nat):List Int:=List.replicate n 0
def cel (l:List Int):Array Value:=(l.map (Value.int .i64)).toArray
theorem znk :(Tryz.prog.info? 245).bind (·.zero)=some (.agg (cel (zer 192))):=by kernel_rfl
theorem zoq :(Tryz.prog.info? 246).bind (·.zero)=some (.agg (cel (zer 80))):=by kernel_rfl
theorem zix {P:Program} {t:TypeId} {z:Value} (h:(P.info? t).bind (·.zero)=some z) (w:World):(zeroValue t).run P w=.ok z w:=by
 cases hi:P.info? t with
 | none=>rw [hi] at h;simp at h
 | some i=>
  rw [hi] at h
  simp at h
  simp [zeroValue,typeInfo,hi,h]
theorem zp6 (w:World):(zeroValue 245).run Tryz.prog w=.ok (.agg (cel (zer 192))) w:=zix znk w
theorem zp0 (w:World):(zeroValue 246).run Tryz.prog w=.ok (.agg (cel (zer 80))) w:=zix zoq w
theorem zh9 (zs:List Int) (L:Nat) (h:zs.length=L):splice ((zer 80).map (Value.int .i64)) 0 (zs.map (Value.int .i64))=(zs++zer (80-L)).map (Value.int .i64):=by
 unfold splice;rw [List.take_zero,List.nil_append,Nat.zero_add,List.length_map,h,<-List.map_drop,List.map_append];unfold zer;rw [List.drop_replicate]
theorem ziz (E:Array Value) (k s:Nat) (hk:k<64) (hE:E[k]?=some (.int .i64 (s:Int))) (W:World):(Instr.index 247 (.agg E) (.int .i64 (k:Int))).run Tryz.prog W=.ok (.int .i64 (s:Int)) W:=by
 obtain ⟨i0,hi,hz0,hz1,hz2⟩:=info_parts Tryz.infoI64
 simp [Instr.index,asIntOf,run_underlying Tryz.underlying247,run_underlying Tryz.underlying3,Go.part,isAgg,sizeOf,typeInfo,hi,hz1,hE,hk]
theorem zqt :∀ X,X<128->1<=X->bl X+wd X=7:=by decide +kernel
theorem z3f {B:Nat} {a b:World} (h:Below B a b) (n:Nat):Below B a (b.drewN n):=⟨h.os,h.tape,h.output,h.size,h.block⟩
theorem zr6 (b:Nat) (h:b<=6):wrap64 (2 ^ b)=((2 ^ b:Nat):Int)/\2 ^ b<=64/\1<=2 ^ b:=by
 have h1:2 ^ b<=2 ^ 6:=Nat.pow_le_pow_right (by omega) h
 have h2:0<2 ^ b:=Nat.pow_pos (by omega)
 have e:((2:Int) ^ b)=((2 ^ b:Nat):Int):=by simp
 refine ⟨?_,h1,h2⟩;rw [e];exact IntWalk.wrap64_in _ (by omega)
theorem zrb (b:Nat) (h:b<=6):∃ Pw:Nat,Pw=2 ^ b/\wrap64 (2 ^ b)=(Pw:Int)/\Pw<=64/\(0:Int)<=wrap64 (2 ^ b)/\wrap64 (2 ^ b)<=64:=by
 obtain ⟨h1,h2,h3⟩:=zr6 b h;exact ⟨2 ^ b,rfl,h1,h2,by omega,by omega⟩
theorem znt {z p Pw:Nat} {u:Int} (hu:u=(Pw:Int)) (h:p<z+Pw):(p:Int)<(z:Int)+u:=by omega
theorem zmm {z p Pw:Nat} {u:Int} (hu:u=(Pw:Int)) (h:¬p<z+Pw):¬(p:Int)<(z:Int)+u:=by omega
theorem zgq (a:Option Addr) (c:Nat) (T:List Int) (L:Nat) (s:Int) (p q:Nat) (w:World) (ha:Ins w a T) (hT:Gd T L) (hF:zcg T s p q) (hp:p<64) :
  Calls Tryz.prog 125 #[.slice a 64 c,.int .i64 s,.int .i64 p] w fun e w'=>e=.returned (.tuple #[.int .i64 (q:Nat),.int .i64 (cB T q:Nat)])/\Below w.heap.size w w':=by
 have HA:Hid (Ins w a T):=ha;have HT:Hid (Gd T L):=hT;have HF:Hid (zcg T s p q):=hF;have hq64:=hF.1;clear ha hT hF
 go_enter Tryz.func125,Tryz.ntmps125
 go_wp2
 go_loopw [8] (fun i wr=>∃ k:Nat,k<=q/\i=.int .i64 k/\Below w.heap.size w wr) (fun i _=>64-(intOf i).toNat)
 case atStart=>exact ⟨0,Nat.zero_le _,rfl,Below.refl _ _⟩
 case round=>
  obtain ⟨k,hk,rfl,hbel⟩:=hrel;have HBL:Hid (Bw w wr/\w.heap.size<=wr.heap.size):=⟨hbel,hbel.size⟩;obtain ⟨sy,b,z,e1,e2,e3,hsy,hb6,hz64⟩:=HT.out.cell k (by omega)
  obtain ⟨gT,oT,rfl,hgT,hcT⟩:=(HA.out.below hbel nl).len_pos (k*3) (by rw [HT.out.len];omega)
  have t0:=hcT (k*3) (by rw [HT.out.len];omega)
  have t1:=hcT (k*3+1) (by rw [HT.out.len];omega)
  have t2:=hcT (k*3+2) (by rw [HT.out.len];omega)
  rw [e1] at t0;rw [e2,<-Nat.add_assoc] at t1;rw [e3,<-Nat.add_assoc] at t2;have HCB:Hid (cB T k=b/\cZ T k=z/\T.getD (k*3) 0=(sy:Int)):=⟨by unfold cB;rw [e2,Int.toNat_natCast],by unfold cZ;rw [e3,Int.toNat_natCast],e1⟩
  have hz63:(z:Int)<=64:=Int.ofNat_le.2 (Nat.le_trans (Nat.le_add_right z (2 ^ b)) hz64);have hk63:(k:Int)<64:=by omega
  obtain ⟨Pw,hPw,ew,ep1,hp0,hp1⟩:=zrb b hb6;rw [<-hPw] at hz64;have HEW:Hid (wrap64 (2 ^ b)=(Pw:Int)/\Pw=2 ^ b):=⟨ew,hPw⟩;have HBA:Hid (Bw w (wr.alloc (Obj.cells #[.int .i64 sy,.int .i64 b,.int .i64 z] 171))/\True):=⟨hbel.alloc HBL.out.2 _,trivial⟩;clear hcT e1 e2 e3 ew ep1 hPw hz64 hbel
  by_cases hkq:k=q
  ·subst hkq
   have hh:=HF.out.2.1;unfold hit at hh;rw [HCB.out.1,HCB.out.2.1,HCB.out.2.2,<-HEW.out.2] at hh;obtain ⟨g1,g2,g3⟩:=hh;subst g1;have h0:((sy:Int) == (sy:Int))=true:=by simp
   have h1i:(z:Int)<=(p:Int):=by omega
   have h2i:(p:Int)<(z:Int)+wrap64 (2 ^ b):=znt HEW.out.1 g3;clear g2 g3;go_wp2_with fail
   go_quiet (fail)
   go_wp2
   go_quiet (fail)
   go_wp2
   go_ret2
   refine ⟨?_,z3f (z3f HBA.out.1 _) _⟩;rw [HCB.out.1]
   rfl
  ·have hnh:=HF.out.2.2 k (by omega)
   unfold hit at hnh;rw [HCB.out.1,HCB.out.2.1,HCB.out.2.2,<-HEW.out.2] at hnh
   by_cases g1:(sy:Int)=s
   ·subst g1
    have h0:((sy:Int) == (sy:Int))=true:=by simp
    by_cases g2:z<=p
    ·have h1i:(z:Int)<=(p:Int):=by omega
     have h2i:¬(p:Int)<(z:Int)+wrap64 (2 ^ b):=zmm HEW.out.1 (fun h=>hnh ⟨rfl,g2,h⟩)
     have h2j:decide ((p:Int)<(z:Int)+wrap64 (2 ^ b))=false:=decide_eq_false h2i;clear hnh g2;go_wp2_with fail
     go_quiet (fail)
     go_wp2
     go_roundw
     case rel=>exact ⟨k+1,by omega,by go_num,z3f HBA.out.1 _⟩
     case measure=>simp [intOf];omega
    ·have h1j:decide (z<=p)=false:=decide_eq_false (by omega)
     clear hnh g2;go_wp2_with fail
     go_quiet (fail)
     go_wp2
     go_roundw
     case rel=>exact ⟨k+1,by omega,by go_num,z3f HBA.out.1 _⟩
     case measure=>simp [intOf];omega
   ·have h0:((sy:Int) == s)=false:=by simpa using g1
    clear hnh g1;go_wp2_with fail
    go_quiet (fail)
    go_wp2
    go_roundw
    case rel=>exact ⟨k+1,by omega,by go_num,z3f HBA.out.1 _⟩
    case measure=>simp [intOf];omega
def nou :List Int->Nat
 | []=>0
 | z :: t=>if z=0 then nou t+1 else 0
theorem zia (l:List Int):nou l<=l.length:=by
 induction l with
 | nil=>simp [nou]
 | cons z t ih=>simp only [nou,List.length_cons];split <;> omega
theorem zmh (l:List Int) (k:Nat) (h:k<nou l):l.getD k 0=0:=by
 induction l generalizing k with
 | nil=>simp [nou] at h
 | cons z t ih=>
  simp only [nou] at h
  split at h
  ·rename_i hz
   cases k with
   | zero=>simpa using hz
   | succ k=>simpa using ih k (by omega)
  ·omega
theorem zkt (l:List Int) (h:nou l<l.length):l.getD (nou l) 0≠0:=by
 induction l with
 | nil=>simp [nou] at h
 | cons z t ih=>
  by_cases hz:z=0
  ·have e:nou (z :: t)=nou t+1:=by simp [nou,hz]
   rw [e] at h ⊢
   simpa using ih (by simpa using h)
  ·have e:nou (z :: t)=0:=by simp [nou,hz]
   rw [e]
   simpa using hz
def run (zs:List Int) (i:Nat):Nat:=min (nou (zs.drop (i+1))) 7
def lp (zs:List Int):Nat->Nat->Nat->Nat->Nat × Nat
 | 0,_,n,V=>(n,V)
 | f+1,i,n,V=>if i<zs.length then (if zs.getD i 0=0 then lp zs f (i+1+run zs i) (n+7) (V+run zs i*2 ^ (n+4)) else lp zs f (i+1) (n+4) (V+(zs.getD i 0).toNat*2 ^ n)) else (n,V)
def lpF (zs:List Int):Nat × Nat:=lp zs zs.length 0 0 0
def lpG (zs:List Int) (n0 V0:Nat):Nat × Nat:=lp zs zs.length 0 n0 V0
theorem z9d (zs:List Int) (f i n V:Nat) (h:¬i<zs.length):lp zs f i n V=(n,V):=by
 cases f with
 | zero=>rfl
 | succ f=>simp [lp,h]
theorem z73 (zs:List Int) (f i n V:Nat) (h:i<zs.length) (hz:zs.getD i 0=0):lp zs (f+1) i n V=lp zs f (i+1+run zs i) (n+7) (V+run zs i*2 ^ (n+4)):=by
 simp only [lp];rw [if_pos h,if_pos hz]
theorem z8t (zs:List Int) (f i n V:Nat) (h:i<zs.length) (hz:¬zs.getD i 0=0):lp zs (f+1) i n V=lp zs f (i+1) (n+4) (V+(zs.getD i 0).toNat*2 ^ n):=by
 simp only [lp];rw [if_pos h,if_neg hz]
theorem znb (zs:List Int) (f i n V:Nat):(lp zs f i n V).1<=n+7*f:=by
 induction f generalizing i n V with
 | zero=>simp [lp]
 | succ f ih=>
  simp only [lp]
  split
  ·split
   ·have:=ih (i+1+run zs i) (n+7) (V+run zs i*2 ^ (n+4));omega
   ·have:=ih (i+1) (n+4) (V+(zs.getD i 0).toNat*2 ^ n);omega
  ·simp
theorem zdc (zs:List Int) (i:Nat) (h:i<zs.length):run zs i<=7/\i+1+run zs i<=zs.length:=by
 have:=zia (zs.drop (i+1));rw [List.length_drop] at this;unfold run
 omega
theorem zbh (zs:List Int) (i j:Nat):(zs.drop i).getD j 0=zs.getD (i+j) 0:=by simp [List.getD_eq_getElem?_getD]
theorem zi2 (zs:List Int) (i j:Nat) (hj:j<run zs i):j<7/\i+j+1<zs.length/\zs.getD (i+j+1) 0=0:=by
 have h1:j<nou (zs.drop (i+1)):=by unfold run at hj;omega
 have h2:=zia (zs.drop (i+1));rw [List.length_drop] at h2;have h3:=zmh _ j h1;rw [zbh] at h3;refine ⟨by unfold run at hj;omega,by omega,?_⟩
 rw [<-h3];congr 1;omega
theorem za9 (zs:List Int) (i:Nat) (hi:i<zs.length) (h7:run zs i<7) (hl:i+run zs i+1<zs.length):zs.getD (i+run zs i+1) 0≠0:=by
 have h1:run zs i=nou (zs.drop (i+1)):=by unfold run at *;omega
 have h2:=zkt (zs.drop (i+1)) (by rw [List.length_drop,<-h1];omega)
 rw [<-h1,zbh] at h2
 intro h
 apply h2
 rw [<-h];congr 1;omega
theorem zaj (n:Nat) (w:World) (h:n<256) :
  Calls Tryz.prog 186 #[.int .i64 (n:Int)] w fun e w'=>e=.returned (.int .i64 (bl n:Nat))/\w'=w:=by
 have h1:(n:Int)<256:=by omega
 go_enter Tryz.func186,Tryz.ntmps186
 go_wp2_with fail
 refine (zfd n w h).mono ?_;rintro e w1 ⟨rfl,rfl⟩;go_wp2;go_ret;exact ⟨rfl,rfl⟩
def lft (zs:List Int) (k:Nat):Nat:=(64-(zs.take k).sum).toNat
def nb (zs:List Int):Nat->Nat
 | 0=>0
 | k+1=>nb zs k+bl (lft zs k)
def vb (zs:List Int):Nat->Nat
 | 0=>0
 | k+1=>vb zs k+(zs.getD k 0).toNat*2 ^ nb zs k
theorem z8q {zs:List Int} (h:∀ z ∈ zs,0<=z):0<=zs.sum:=by
 induction zs with
 | nil=>simp
 | cons z zs ih=>
  have h1:=h z (by simp)
  have h2:=ih (fun y hy=>h y (by simp [hy]))
  simp only [List.sum_cons]
  omega
theorem z3z {zs:List Int} (h:zk zs=true):zs.sum=64/\∀ z ∈ zs,0<=z/\z<=64:=by
 simp only [zk,decide_eq_true_eq] at h
 exact ⟨h.2.2.2,h.2.2.1⟩
theorem zk4 {zs:List Int} (h:zk zs=true) (k:Nat):0<=(zs.take k).sum/\(zs.take k).sum<=64:=by
 obtain ⟨h1,h2⟩:=z3z h;have e:(zs.take k).sum+(zs.drop k).sum=zs.sum:=by rw [<-List.sum_append,List.take_append_drop]
 have h3:=z8q (zs:=zs.drop k) (fun z hz=>(h2 z (List.mem_of_mem_drop hz)).1)
 have h4:=z8q (zs:=zs.take k) (fun z hz=>(h2 z (List.mem_of_mem_take hz)).1)
 omega
theorem z6n {zs:List Int} (h:zk zs=true) (k:Nat):((lft zs k:Nat):Int)=64-(zs.take k).sum/\lft zs k<=64:=by
 have:=zk4 h k;unfold lft
 omega
theorem zdl {zs:List Int} (h:zk zs=true) (k:Nat) (hk:k<zs.length):((lft zs (k+1):Nat):Int)=(lft zs k:Nat)-zs.getD k 0/\0<=zs.getD k 0/\zs.getD k 0<=(lft zs k:Nat):=by
 have h1:=z6n h k;have h2:=z6n h (k+1);have h3:=z3h zs k hk;have h4:=(z3z h).2 _ (zp hk)
 omega
theorem zqz {zs:List Int} (h:zk zs=true) (k:Nat):nb zs k<=7*k:=by
 induction k with
 | zero=>simp [nb]
 | succ k ih=>
  have h1:=z6n h k;have h2:=z5x _ h1.2
  simp only [nb]
  omega
theorem znw {zs:List Int} (h:zk zs=true):lft zs zs.length=0:=by
 have h1:=z6n h zs.length;rw [List.take_length,(z3z h).1] at h1
 omega
theorem zmc {zs:List Int} (h:zk zs=true) (k:Nat) (hk:k<=zs.length) (h0:lft zs k=0):nb zs zs.length=nb zs k/\vb zs zs.length=vb zs k:=by
 have step:∀ j,k<=j->j<=zs.length->lft zs j=0/\nb zs j=nb zs k/\vb zs j=vb zs k:=by
  intro j
  induction j with
  | zero => intro h1 _; obtain rfl : k = 0 := by omega
            exact ⟨h0,rfl,rfl⟩
  | succ j ih=>
   intro h1 h2
   by_cases hj:k<=j
   ·obtain ⟨e1,e2,e3⟩:=ih hj (by omega)
    have s:=zdl h j (by omega)
    have z:(zs.getD j 0).toNat=0:=by omega
    refine ⟨by omega,?_,?_⟩
    ·simp only [nb];rw [e1,z6t,e2];rfl
    ·simp only [vb];rw [z,e3];simp
   ·obtain rfl:k=j+1:=by omega
    exact ⟨h0,rfl,rfl⟩
 exact (step zs.length hk nl).2
def nbG (zs:List Int) (n0 k:Nat):Nat:=n0+nb zs k
def vbG (zs:List Int) (n0 V0 k:Nat):Nat:=V0+vb zs k*2 ^ n0
theorem zkr (zs:List Int) (n0 k:Nat):nbG zs n0 (k+1)=nbG zs n0 k+bl (lft zs k):=by
 simp only [nbG,nb];omega
theorem zl1 (zs:List Int) (n0 V0 k:Nat):vbG zs n0 V0 (k+1)=vbG zs n0 V0 k+(zs.getD k 0).toNat*2 ^ nbG zs n0 k:=by
 simp only [nbG,vbG,vb]
 rw [Nat.add_mul,Nat.add_assoc,Nat.mul_assoc,<-Nat.pow_add,Nat.add_comm (nb zs k) n0]
theorem zj1 {zs:List Int} (h:zk zs=true) (n0 k:Nat):nbG zs n0 k<=n0+7*k:=by
 have:=zqz h k;unfold nbG;omega
theorem zr2 {zs:List Int} (h:zk zs=true) (n0 V0 k:Nat) (hk:k<=zs.length) (h0:lft zs k=0):nbG zs n0 zs.length=nbG zs n0 k/\vbG zs n0 V0 zs.length=vbG zs n0 V0 k:=by
 obtain ⟨h1,h2⟩:=zmc h k hk h0;unfold nbG vbG;rw [h1,h2];exact ⟨rfl,rfl⟩
end Go.Proofs.YtjmcjbmjgpponaaGreatDoor
