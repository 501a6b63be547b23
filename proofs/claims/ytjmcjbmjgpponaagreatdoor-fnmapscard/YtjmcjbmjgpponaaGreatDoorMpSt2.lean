import Derived.Test.YtjmcjbmjgpponaaGreatDoorMpA
set_option maxRecDepth 20000
set_option maxHeartbeats 16000000
namespace Go.Proofs.YtjmcjbmjgpponaaGreatDoor
open Go.RowKit
set_option linter.unusedVariables false
set_option linter.unusedSimpArgs false
def mvS (s:Int) (q:El) (i:Nat) (l:List (Int × Int)):List (Int × Int):=
 if 0<=q.n/\q.n<l.length then l.set q.n.toNat (if 0<q.ls.length then (s,(i:Int)) else dp) else l
def mvL (s:Int) (es:List El) (l:List (Int × Int)):Nat->List (Int × Int)
 | 0=>l
 | i+1=>mvS s (es.getD i de) i (mvL s es l i)
theorem zo0 (s:Int) (q:El) (i:Nat) (l:List (Int × Int)):(mvS s q i l).length=l.length:=by
 unfold mvS
 split <;> simp
theorem z4d (s:Int) (es:List El) (l:List (Int × Int)) (k:Nat):(mvL s es l k).length=l.length:=by
 induction k with
 | zero=>rfl
 | succ k ih=>rw [mvL,zo0,ih]
theorem zq1 {s:Int} {q:El} {i:Nat} {l:List (Int × Int)} (h:¬(0<=q.n/\q.n<l.length)):mvS s q i l=l:=by rw [mvS,if_neg h]
theorem zoa {s:Int} {q:Nat} {a:Option Addr} {c:Nat} {i:Nat} {l:List (Int × Int)} (h:q<l.length):mvS s ⟨(q:Nat),a,c,[]⟩ i l=l.set q dp:=by
 rw [mvS,if_pos ⟨by simp only;omega,by simp only;omega⟩]
 simp
theorem zp9 {s:Int} {q:Nat} {a:Option Addr} {c:Nat} {ls:List Int} {i:Nat} {l:List (Int × Int)} (h:q<l.length) (h2:0<ls.length):mvS s ⟨(q:Nat),a,c,ls⟩ i l=l.set q (s,(i:Int)):=by
 rw [mvS,if_pos ⟨by simp only;omega,by simp only;omega⟩]
 simp [h2]
theorem zk6 (a:Option Addr) (cap:Nat) (ps:List (Int × Int)) (s:Int) (sa:Option Addr) (sc:Nat) (es:List El) (w:World) (hb:Pls w a ps) (h1:1<=ps.length) (hn:ps.length<=1000) (hs:Els true w sa es) (hm:es.length<=1000) (hr:-9223372036854775808<=s/\s<=9223372036854775807) :
  Calls Tryz.prog 55 #[.slice a ps.length cap,.int .i64 s,.slice sa es.length sc] w fun e w'=>(∃ g c,e=.returned (.slice (some ⟨g,0,none⟩) ps.length c)/\OwP w' w.heap.size g c (mvL s es ps es.length))/\Below w.heap.size w w':=by
 have HCL:=zf6 a cap ps w hb (by omega)
 have HB:Hid (Els true w sa es):=hs;have HML:Hid (∀ k,(mvL s es ps k).length=ps.length):=fun k=>z4d s es ps k
 have HMV:Hid (∀ k,mvL s es ps (k+1)=mvS s (es.getD k de) k (mvL s es ps k)):=fun k=>rfl
 have HM0:Hid (mvL s es ps 0=ps/\True):=⟨rfl,trivial⟩;clear hb hs;generalize hlen:es.length=n at *;have HL:Hid (es.length=n/\True):=⟨hlen,trivial⟩;clear hlen;generalize hlp:ps.length=m at *;have HP:Hid (ps.length=m/\True):=⟨hlp,trivial⟩;clear hlp
 go_enter Tryz.func55,Tryz.ntmps55
 go_wp2_with fail
 refine HCL.mono ?_;clear HCL;rintro e w1 ⟨⟨v,rfl,hov⟩,hb1⟩;obtain ⟨va,vc,hv,hmn⟩:=hov.mine;subst hv;obtain ⟨g,rfl,how⟩:∃ g,va=some ⟨g,0,none⟩/\OwP w1 w.heap.size g vc ps:=by
  rcases hmn with ⟨-,h,-⟩ | ⟨g,h,_,_,h2⟩
  ·rw [h] at HP
   have:=HP.out.1
   simp at this
   omega
  ·exact ⟨g,h,h2⟩
 have HI:Hid (OwP w1 w.heap.size g vc (mvL s es ps 0)/\Below w.heap.size w w1):=⟨by rw [HM0.out.1];exact how,hb1⟩
 rw [HP.out.1];clear hov hmn how hb1;go_wp2
 go_loopw [14] (fun i wr=>∃ k:Nat,k<=n/\i=.int .i64 k/\OwP wr w.heap.size g vc (mvL s es ps k)/\Below w.heap.size w wr) (fun i _=>n-(intOf i).toNat)
 case atStart=>exact ⟨0,Nat.zero_le _,rfl,HI.out.1,HI.out.2⟩
 case round=>
  clear HI;obtain ⟨k,hk,rfl,how,hbel⟩:=hrel
  by_cases hlt:k<n
  ·obtain ⟨b,off,rfl,hb1,c0,c1,hby,hrg⟩:=(HB.out.below hbel nl).pen k (by rw [HL.out.1];exact hlt)
   have hln:=HML.out k;have hmv:=HMV.out k;have hll:(es.getD k de).ls.length<=maxLen:=hrg.len;generalize hs:es.getD k de=q at *;obtain ⟨sn,qa,qc,sl⟩:=q
   simp only at c0 c1 hby hll
   have hgl:=how.lt;have hbx:Below wr.heap.size wr (wr.alloc (Obj.cells #[.int .i64 sn,.slice qa sl.length qc] 39)):=bAw;have how2:OwP (wr.alloc (Obj.cells #[.int .i64 sn,.slice qa sl.length qc] 39)) w.heap.size g vc (mvL s es ps k):=OVp.below how hbx;have hbw:Below w.heap.size w (wr.alloc (Obj.cells #[.int .i64 sn,.slice qa sl.length qc] 39)):=hbel.trans (hbx.mono hbel.size);have q0:(wr.alloc (Obj.cells #[.int .i64 sn,.slice qa sl.length qc] 39)).cell? ⟨wr.heap.size,0,none⟩=some (.int .i64 sn):=by simp
   have q1:(wr.alloc (Obj.cells #[.int .i64 sn,.slice qa sl.length qc] 39)).cell? ⟨wr.heap.size,1,none⟩=some (.slice qa sl.length qc):=by simp
   have hne:¬g=wr.heap.size:=by omega
   have hne2:¬wr.heap.size=g:=by omega
   have HH:=z82 (some ⟨g,0,none⟩) m vc sn (wr.alloc (Obj.cells #[.int .i64 sn,.slice qa sl.length qc] 39)) (by omega)
   clear hby hrg hs hbx how;go_wp2_with fail
   generalize wr.alloc (Obj.cells #[.int .i64 sn,.slice qa sl.length qc] 39)=W at *;refine HH.mono ?_;clear HH c0 c1;rintro e w2 ⟨rfl,rfl⟩
   by_cases hin:0<=sn/\sn<m
   rotate_left
   ·rw [decide_eq_false hin]
    rw [zq1 (by simp only [hln];exact hin)] at hmv
    have HN:Hid (OwP w2 w.heap.size g vc (mvL s es ps (k+1))/\Below w.heap.size w w2):=⟨by rw [hmv];exact how2,hbw⟩
    clear hmv how2 hbw hln hin;go_wp2;go_roundw
    case rel=>exact ⟨k+1,by omega,by go_num,HN.out.1,HN.out.2⟩
    case measure=>simp [intOf];omega
   ·rw [decide_eq_true hin]
    obtain ⟨q,rfl⟩:=Int.eq_ofNat_of_zero_le hin.1;have hqm:q<m:=by omega
    clear hin;obtain ⟨x0,x1⟩:=how2.cell q (by omega)
    have f0:=how2.frozen (q*2);have f1:=how2.frozen (q*2+1);have R1:=how2.store q (by omega) dp zn9
    by_cases hz:0<sl.length
    ·have R2:=R1.store q (by simp;omega) (s,(k:Int)) ⟨hr,by simp only;omega,by simp only;omega⟩
     rw [List.set_set,<-zp9 (a:=qa) (c:=qc) (by omega) hz,<-hmv] at R2
     have HN:Hid (OwP ((((w2.setCell ⟨g,q*2,none⟩ (.int .i64 0)).setCell ⟨g,q*2+1,none⟩ (.int .i64 0)).setCell ⟨g,q*2,none⟩ (.int .i64 s)).setCell ⟨g,q*2+1,none⟩ (.int .i64 k)) w.heap.size g vc (mvL s es ps (k+1))/\Below w.heap.size w ((((w2.setCell ⟨g,q*2,none⟩ (.int .i64 0)).setCell ⟨g,q*2+1,none⟩ (.int .i64 0)).setCell ⟨g,q*2,none⟩ (.int .i64 s)).setCell ⟨g,q*2+1,none⟩ (.int .i64 k))):=
      ⟨R2,(((hbw.setCell hgl.1 _).setCell hgl.1 _).setCell hgl.1 _).setCell hgl.1 _⟩
     clear R1 R2 hmv how2 hbw hln;go_wp2;go_roundw
     case rel=>exact ⟨k+1,by omega,by go_num,HN.out.1,HN.out.2⟩
     case measure=>simp [intOf];omega
    ·obtain rfl:sl=[]:=List.eq_nil_of_length_eq_zero (by omega)
     rw [<-zoa (s:=s) (a:=qa) (c:=qc) (i:=k) (by omega),<-hmv] at R1
     have HN:Hid (OwP ((w2.setCell ⟨g,q*2,none⟩ (.int .i64 0)).setCell ⟨g,q*2+1,none⟩ (.int .i64 0)) w.heap.size g vc (mvL s es ps (k+1))/\Below w.heap.size w ((w2.setCell ⟨g,q*2,none⟩ (.int .i64 0)).setCell ⟨g,q*2+1,none⟩ (.int .i64 0))):=
      ⟨R1,(hbw.setCell hgl.1 _).setCell hgl.1 _⟩
     clear R1 hmv how2 hbw hln;go_wp2;go_roundw
     case rel=>exact ⟨k+1,by omega,by go_num,HN.out.1,HN.out.2⟩
     case measure=>simp [intOf];omega
  ·have hkn:k=n:=by omega
   subst hkn;have HF:Hid (OwP wr w.heap.size g vc (mvL s es ps k)/\Below w.heap.size w wr):=⟨how,hbel⟩;clear how hbel;go_wp2;go_ret;exact ⟨⟨g,vc,rfl,HF.out.1⟩,HF.out.2⟩
open Go.Maps Go.ChangeShapes Go.ChangeAt
theorem Tryz.lawKI :Keyed Tryz.prog 3:=int_keyed Tryz.underlying3
def Liv (w:World) (M n:Nat) (f:Int->List Int):Prop:=
 ∃ D:DataW Unit,w.ownsGroups Tryz.prog 3 (M+1) 3 .i64 M n D/\IsMap D/\∀ s,Itm (D.atKey (.int .i64 s) .nil) (f s)
theorem Liv.made (w:World):Liv (w.alloc (.map #[] 0)) w.heap.size 0 (fun _=>[]):=
 ⟨.map [],World.ownsGroups_made w _ _ _ _,isMap_empty,fun s=>.inl ⟨rfl,rfl⟩⟩
theorem Liv.below {w w':World} {M n:Nat} {f:Int->List Int} (h:Liv w M n f) (hb:Below w.heap.size w w'):Liv w' M n f:=by
 obtain ⟨D,h1,h2,h3⟩:=h;exact ⟨D,h1.kept (zf0 hb) (by simp) (fun _ _ _ x _=>by cases x.val.ownBlock <;> simp),h2,h3⟩
theorem Liv.lt {w:World} {M n:Nat} {f:Int->List Int} (h:Liv w M n f):M<w.heap.size:=by
 obtain ⟨D,⟨es,clock,hb,_⟩,_⟩:=h;exact (Array.getElem?_eq_some_iff.1 hb).1
theorem Liv.look {w:World} {M n:Nat} {f:Int->List Int} (h:Liv w M n f) (hn:n<=1000) (s:Int) (hs:(Lit.int .i64 s).wf=true) :
  ∃ v,(Instr.lookup 86 (.map (some M)) (.int .i64 s) false).run Tryz.prog w=.ok v w/\OVI w (M+1) v (f s)/\(f s).length<=n:=by
 obtain ⟨D,h1,h2,h3⟩:=h;obtain ⟨v,zs,hrun,hat,hoi,hzl,_⟩:=h1.at Tryz.lawKI Tryz.underlying86 (Tryz.zeroSI _) (by unfold maxLen;omega) (keyOf_int_mk Tryz.underlying3 hs)
 obtain rfl:zs=f s:=(Itm.of hoi hat).eq (h3 s);exact ⟨v,hrun,⟨hoi.1,fun z hz=>bounds_i64 (hoi.2 z hz)⟩,hzl⟩
def liv (ps:List (Int × Int)):Nat->Int->List Int
 | 0,_=>[]
 | k+1,s=>if !nwh (ps.getD k dp) && (ps.getD k dp).1 == s then liv ps k s++[(k:Int)] else liv ps k s
theorem zan (ps:List (Int × Int)) (k:Nat) (s z:Int):z ∈ liv ps k s↔∃ i:Nat,i<k/\z=i/\nwh (ps.getD i dp)=false/\(ps.getD i dp).1=s:=by
 induction k with
 | zero=>simp [liv]
 | succ k ih=>
  simp only [liv]
  constructor
  ·intro h
   split at h
   ·rename_i hc
    simp only [Bool.and_eq_true,Bool.not_eq_true',beq_iff_eq] at hc
    rcases List.mem_append.1 h with h | h
    ·obtain ⟨i,hi,r⟩:=ih.1 h
     exact ⟨i,by omega,r⟩
    ·simp at h
     exact ⟨k,by omega,h,hc.1,hc.2⟩
   ·obtain ⟨i,hi,r⟩:=ih.1 h
    exact ⟨i,by omega,r⟩
  ·rintro ⟨i,hi,rfl,h1,h2⟩
   rcases Nat.lt_or_ge i k with h | h
   ·have:=ih.2 ⟨i,h,rfl,h1,h2⟩
    split
    ·exact List.mem_append_left _ this
    ·exact this
   ·obtain rfl:i=k:=by omega
    rw [if_pos (by rw [h1,h2];simp)]
    simp
theorem znz (ps:List (Int × Int)) (k:Nat) (s:Int):(liv ps k s).length<=k:=by
 induction k with
 | zero=>simp [liv]
 | succ k ih=>
  simp only [liv]
  split
  ·simp;omega
  ·omega
theorem zqn (ps:List (Int × Int)) (k:Nat) (h:nwh (ps.getD k dp)=true):liv ps (k+1)=liv ps k:=by
 funext s
 simp only [liv,h]
 simp
theorem zpp (ps:List (Int × Int)) (k:Nat) (h:nwh (ps.getD k dp)=false) (s:Int):liv ps (k+1) s=if s=(ps.getD k dp).1 then liv ps k s++[(k:Int)] else liv ps k s:=by
 simp only [liv,h]
 by_cases hs:s=(ps.getD k dp).1
 ·rw [if_pos hs,if_pos (by rw [hs];simp)]
 ·rw [if_neg hs,if_neg]
  simp
  exact fun e=>hs e.symm
end Go.Proofs.YtjmcjbmjgpponaaGreatDoor
namespace Go.Proofs.YtjmcjbmjgpponaaGreatDoor
open Go.RowKit
set_option linter.unusedVariables false
theorem zaf (ps:List (Int × Int)) (p:Int × Int):∀ k,tkn ps p k=true↔∃ j,j<k/\ps.getD j dp=p
 | 0=>by simp [tkn]
 | k+1=>by
  simp only [tkn,Bool.or_eq_true,beq_iff_eq,zaf ps p k]
  constructor
  ·rintro (⟨j,h1,h2⟩ | h)
   ·exact ⟨j,by omega,h2⟩
   ·exact ⟨k,by omega,h⟩
  ·rintro ⟨j,h1,h2⟩
   by_cases hj:j=k
   ·exact .inr (hj ▸ h2)
   ·exact .inl ⟨j,by omega,h2⟩
theorem zg5 (ps:List (Int × Int)):∀ n,okT ps n=true↔∀ i,i<n->z14 ps i=true
 | 0=>by simp [okT]
 | n+1=>by
  simp only [okT,Bool.and_eq_true,zg5 ps n]
  constructor
  ·rintro ⟨h1,h2⟩ i hi
   by_cases hin:i=n
   ·exact hin ▸ h2
   ·exact h1 i (by omega)
  ·exact fun h=>⟨fun i hi=>h i (by omega),h n (by omega)⟩
def zqm (ps:List (Int × Int)):Prop:=(1<=ps.length/\ps.length<=16)/\∀ i,i<ps.length->nwh (ps.getD i dp)=true\/(rgt (ps.getD i dp)=true/\∀ j,j<i->ps.getD j dp≠ps.getD i dp)
theorem zio (ps:List (Int × Int)):z0g ps=true↔zqm ps:=by
 unfold z0g zqm
 simp only [Bool.and_eq_true,decide_eq_true_eq,zg5]
 refine and_congr Iff.rfl ⟨fun h i hi=>?_,fun h i hi=>?_⟩
 ·have:=h i hi
  simp only [z14,Bool.or_eq_true,Bool.and_eq_true,Bool.not_eq_true'] at this
  rcases this with h1 | ⟨h1,h2⟩
  ·exact .inl h1
  ·refine .inr ⟨h1,fun j hj e=>?_⟩
   have:=(zaf ps (ps.getD i dp) i).2 ⟨j,hj,e⟩;rw [h2] at this
   cases this
 ·simp only [z14,Bool.or_eq_true,Bool.and_eq_true,Bool.not_eq_true']
  rcases h i hi with h1 | ⟨h1,h2⟩
  ·exact .inl h1
  ·refine .inr ⟨h1,?_⟩
   cases ht:tkn ps (ps.getD i dp) i with
   | false=>rfl
   | true=>
    obtain ⟨j,hj,e⟩:=(zaf _ _ _).1 ht;exact absurd e (h2 j hj)
structure MapQ (s:Int) (k:Nat) (l:List (Int × Int)):Prop where
 ok:∀ i,i<l.length->nwh (l.getD i dp)=true\/rgt (l.getD i dp)=true
 apart:∀ i j,i<l.length->j<l.length->i≠j->nwh (l.getD i dp)=false->l.getD i dp≠l.getD j dp
 low:∀ i,i<l.length->(l.getD i dp).1=s->(l.getD i dp).2<k
theorem ze6 :nwh dp=true:=by decide
theorem z0o (l:List (Int × Int)) (a i:Nat) (v:Int × Int) (ha:a<l.length):(l.set a v).getD i dp=if i=a then v else l.getD i dp:=by
 simp only [List.getD_eq_getElem?_getD,List.getElem?_set]
 by_cases h:a=i
 ·subst h;simp [ha]
 ·rw [if_neg h,if_neg (fun e=>h e.symm)]
theorem MapQ.step {s:Int} {k:Nat} {l:List (Int × Int)} (h:MapQ s k l) (hs:2<=s/\s<=23) (hk:k<=15) (q:El):MapQ s (k+1) (mvS s q k l):=by
 unfold mvS
 split
 ·rename_i hq
  have ha:q.n.toNat<l.length:=by omega
  generalize q.n.toNat=a at *;have hlow:∀ i,i<l.length->(l.getD i dp).1=s->(l.getD i dp).2<(k+1:Nat):=fun i hi e=>by have:=h.low i hi e;omega
  split
  ·refine ⟨fun i hi=>?_,fun i j hi hj hij hw=>?_,fun i hi he=>?_⟩
   ·rw [List.length_set] at hi
    rw [z0o _ _ _ _ ha]
    split
    ·right;simp only [rgt,decide_eq_true_eq];omega
    ·exact h.ok i hi
   ·rw [List.length_set] at hi hj
    rw [z0o _ _ _ _ ha] at hw ⊢;rw [z0o _ _ _ _ ha]
    by_cases hia:i=a
    ·rw [if_pos hia,if_neg (by omega)]
     intro e
     have:=h.low j hj (by rw [<-e])
     rw [<-e] at this
     simp only at this
     omega
    ·rw [if_neg hia] at hw ⊢
     by_cases hja:j=a
     ·rw [if_pos hja]
      intro e
      have:=h.low i hi (by rw [e])
      rw [e] at this
      simp only at this
      omega
     ·rw [if_neg hja]
      exact h.apart i j hi hj hij hw
   ·rw [List.length_set] at hi
    rw [z0o _ _ _ _ ha] at he ⊢
    split
    ·simp only;omega
    ·rename_i hia
     rw [if_neg hia] at he;exact hlow i hi he
  ·refine ⟨fun i hi=>?_,fun i j hi hj hij hw=>?_,fun i hi he=>?_⟩
   ·rw [List.length_set] at hi
    rw [z0o _ _ _ _ ha]
    split
    ·exact .inl ze6
    ·exact h.ok i hi
   ·rw [List.length_set] at hi hj
    rw [z0o _ _ _ _ ha] at hw ⊢;rw [z0o _ _ _ _ ha]
    by_cases hia:i=a
    ·rw [if_pos hia,ze6] at hw
     cases hw
    ·rw [if_neg hia] at hw ⊢
     by_cases hja:j=a
     ·rw [if_pos hja]
      intro e
      rw [e,ze6] at hw
      cases hw
     ·rw [if_neg hja]
      exact h.apart i j hi hj hij hw
   ·rw [List.length_set] at hi
    rw [z0o _ _ _ _ ha] at he ⊢
    split
    ·rename_i hia
     rw [if_pos hia] at he;have e0:(dp:Int × Int).1=0:=rfl;rw [e0] at he
     omega
    ·rename_i hia
     rw [if_neg hia] at he;exact hlow i hi he
 ·exact ⟨h.ok,h.apart,fun i hi e=>by have:=h.low i hi e;omega⟩
theorem MapQ.all {s:Int} {l:List (Int × Int)} (h:MapQ s 0 l) (hs:2<=s/\s<=23) (es:List El):∀ k,k<=16->MapQ s k (mvL s es l k)
 | 0,_=>h
 | k+1,hk=>(MapQ.all h hs es k (by omega)).step hs (by omega) _
theorem zlg {s:Int} {ps:List (Int × Int)} (hm:z0g ps=true) (hs:2<=s/\s<=23) (hf:∀ i,i<ps.length->(ps.getD i dp).1≠s) (es:List El) (hn:es.length<=16):z0g (mvL s es ps es.length)=true:=by
 obtain ⟨h1,h2⟩:=(zio ps).1 hm;have h0:MapQ s 0 ps:=by
  refine ⟨fun i hi=>(h2 i hi).imp id (fun h=>h.1),fun i j hi hj hij hw e=>?_,fun i hi e=>absurd e (hf i hi)⟩
  rcases Nat.lt_or_ge i j with h | h
  ·rcases h2 j hj with h3 | ⟨_,h3⟩
   ·rw [<-e,hw] at h3;cases h3
   ·exact h3 i h e
  ·rcases h2 i hi with h3 | ⟨_,h3⟩
   ·rw [hw] at h3;cases h3
   ·exact h3 j (by omega) e.symm
 have hq:=h0.all hs es es.length hn;refine (zio _).2 ⟨by rw [z4d];exact h1,fun i hi=>?_⟩
 rcases hq.ok i hi with h | h
 ·exact .inl h
 ·cases hw:nwh ((mvL s es ps es.length).getD i dp) with
  | true=>exact .inl rfl
  | false=>exact .inr ⟨h,fun j hj e=>hq.apart i j hi (by omega) (by omega) hw e.symm⟩
set_option linter.unusedSimpArgs false
theorem zq0 (W:World) (v:Value) (T:TypeId):(W.alloc (Obj.cells #[v] T)).cell? ⟨W.heap.size,0,none⟩=some v/\(W.alloc (Obj.cells #[v] T)).frozen? ⟨W.heap.size,0,none⟩=false:=⟨by simp,by simp⟩
def gtP (ps:List (Int × Int)) (x:Int):Int × Int:=if z0g ps then z0h ps x else dp
def gtB (ps:List (Int × Int)) (x:Int):Bool:=z0g ps && !nwh (z0h ps x)
structure Atl (w:World) (R M:Nat) (a:Option Addr) (n c:Nat):Prop where
 blk:w.heap[R]?=some (.cells #[.slice a n c,.map (some M)] 88 (0,0))
theorem Atl.c0 {w:World} {R M:Nat} {a:Option Addr} {n c:Nat} (h:Atl w R M a n c):w.cell? ⟨R,0,none⟩=some (.slice a n c):=by
 rw [cell_of_row w R 0 _ _ (0,0) h.blk];rfl
theorem Atl.c1 {w:World} {R M:Nat} {a:Option Addr} {n c:Nat} (h:Atl w R M a n c):w.cell? ⟨R,1,none⟩=some (.map (some M)):=by
 rw [cell_of_row w R 1 _ _ (0,0) h.blk];rfl
theorem Atl.lt {w:World} {R M:Nat} {a:Option Addr} {n c:Nat} (h:Atl w R M a n c):R<w.heap.size:=(Array.getElem?_eq_some_iff.1 h.blk).1
theorem Atl.below {w w':World} {R M:Nat} {a:Option Addr} {n c:Nat} (h:Atl w R M a n c) (hb:Below w.heap.size w w'):Atl w' R M a n c:=⟨(hb.block R h.lt).trans h.blk⟩
theorem zcj (R M P Q:Nat) (a:Option Addr) (c:Nat) (ps:List (Int × Int)) (z x y:Int) (w:World) (hA:Atl w R M a ps.length c) (hb:Pls w a ps) (hn:ps.length<=1048576)
  (hP:w.cell? ⟨P,0,none⟩=some (.pointer (some ⟨R,0,none⟩))) (hQ0:w.cell? ⟨Q,0,none⟩=some (.int .i64 x)) (hQ1:w.cell? ⟨Q,1,none⟩=some (.int .i64 y)) (hPl:P<w.heap.size) (hQl:Q<w.heap.size) :
  Calls Tryz.prog 116 #[.int .i64 z,.pointer (some ⟨P,0,none⟩),.pointer (some ⟨Q,0,none⟩)] w fun e w'=>e=.returned (.bool (z0h ps z == (x,y)))/\Below w.heap.size w w':=by
 have hR:=hA.lt;have HPO:=z48 a c ps z w.drew hb hn;have HC:Hid (w.cell? ⟨P,0,none⟩=some (.pointer (some ⟨R,0,none⟩))/\w.cell? ⟨R,0,none⟩=some (.slice a ps.length c)/\w.cell? ⟨Q,0,none⟩=some (.int .i64 x)/\w.cell? ⟨Q,1,none⟩=some (.int .i64 y)):=⟨hP,hA.c0,hQ0,hQ1⟩;clear hb hA hP hQ0 hQ1;generalize z0h ps z=q at *;obtain ⟨x2,y2⟩:=q
 simp only at HPO
 have key:(x2=x/\y2=y)\/¬x2=x\/(x2=x/\¬y2=y):=by omega
 rcases key with ⟨rfl,rfl⟩ | h | ⟨rfl,h⟩
 ·rw [show ((x2,y2) == (x2,y2))=true from by simp]
  go_enter Tryz.func116,Tryz.ntmps116
  go_wp2_with fail
  go_region_held3 (fun W=>W.cell? ⟨P,0,none⟩=some (.pointer (some ⟨R,0,none⟩))/\W.cell? ⟨R,0,none⟩=some (.slice a ps.length c)/\W.cell? ⟨Q,0,none⟩=some (.int .i64 x2)/\W.cell? ⟨Q,1,none⟩=some (.int .i64 y2))
   (first | exact HC.out | exact HC8.out)
   (first
    | (go_at_call 56;refine HPO.mono ?_;rintro e w8 ⟨rfl,hb8'⟩;have hb8:=Below.drewS hb8';have HC8:Hid (w8.cell? ⟨P,0,none⟩=some (.pointer (some ⟨R,0,none⟩))/\w8.cell? ⟨R,0,none⟩=some (.slice a ps.length c)/\w8.cell? ⟨Q,0,none⟩=some (.int .i64 x2)/\w8.cell? ⟨Q,1,none⟩=some (.int .i64 y2)):=⟨keep hb8 hPl HC.out.1,keep hb8 hR HC.out.2.1,keep hb8 hQl HC.out.2.2.1,keep hb8 hQl HC.out.2.2.2⟩))
  go_wp2
  go_ret;exact ⟨rfl,hb8⟩
 ·rw [show ((x2,y2) == (x,y))=false from by simp;exact fun e=>absurd e h]
  go_enter Tryz.func116,Tryz.ntmps116
  go_wp2_with fail
  go_region_held3 (fun W=>W.cell? ⟨P,0,none⟩=some (.pointer (some ⟨R,0,none⟩))/\W.cell? ⟨R,0,none⟩=some (.slice a ps.length c)/\W.cell? ⟨Q,0,none⟩=some (.int .i64 x)/\W.cell? ⟨Q,1,none⟩=some (.int .i64 y))
   (first | exact HC.out | exact HC8.out)
   (first
    | (go_at_call 56;refine HPO.mono ?_;rintro e w8 ⟨rfl,hb8'⟩;have hb8:=Below.drewS hb8';have HC8:Hid (w8.cell? ⟨P,0,none⟩=some (.pointer (some ⟨R,0,none⟩))/\w8.cell? ⟨R,0,none⟩=some (.slice a ps.length c)/\w8.cell? ⟨Q,0,none⟩=some (.int .i64 x)/\w8.cell? ⟨Q,1,none⟩=some (.int .i64 y)):=⟨keep hb8 hPl HC.out.1,keep hb8 hR HC.out.2.1,keep hb8 hQl HC.out.2.2.1,keep hb8 hQl HC.out.2.2.2⟩))
  go_wp2
  go_ret;exact ⟨rfl,hb8⟩
 ·rw [show ((x2,y2) == (x2,y))=false from by simp;exact h]
  go_enter Tryz.func116,Tryz.ntmps116
  go_wp2_with fail
  go_region_held3 (fun W=>W.cell? ⟨P,0,none⟩=some (.pointer (some ⟨R,0,none⟩))/\W.cell? ⟨R,0,none⟩=some (.slice a ps.length c)/\W.cell? ⟨Q,0,none⟩=some (.int .i64 x2)/\W.cell? ⟨Q,1,none⟩=some (.int .i64 y))
   (first | exact HC.out | exact HC8.out)
   (first
    | (go_at_call 56;refine HPO.mono ?_;rintro e w8 ⟨rfl,hb8'⟩;have hb8:=Below.drewS hb8';have HC8:Hid (w8.cell? ⟨P,0,none⟩=some (.pointer (some ⟨R,0,none⟩))/\w8.cell? ⟨R,0,none⟩=some (.slice a ps.length c)/\w8.cell? ⟨Q,0,none⟩=some (.int .i64 x2)/\w8.cell? ⟨Q,1,none⟩=some (.int .i64 y)):=⟨keep hb8 hPl HC.out.1,keep hb8 hR HC.out.2.1,keep hb8 hQl HC.out.2.2.1,keep hb8 hQl HC.out.2.2.2⟩))
  go_wp2
  go_ret;exact ⟨rfl,hb8⟩
structure TkW (w:World) (R M P Q:Nat) (a:Option Addr) (c:Nat) (ps:List (Int × Int)) (x y:Int):Prop where
 atl:Atl w R M a ps.length c
 pls:Pls w a ps
 hP:w.cell? ⟨P,0,none⟩=some (.pointer (some ⟨R,0,none⟩))
 hQ0:w.cell? ⟨Q,0,none⟩=some (.int .i64 x)
 hQ1:w.cell? ⟨Q,1,none⟩=some (.int .i64 y)
 hPl:P<w.heap.size
 hQl:Q<w.heap.size
theorem TkW.below {w w':World} {R M P Q:Nat} {a:Option Addr} {c:Nat} {ps:List (Int × Int)} {x y:Int} (h:TkW w R M P Q a c ps x y) (hb:Below w.heap.size w w'):TkW w' R M P Q a c ps x y:=
 ⟨h.atl.below hb,h.pls.below hb nl,keep hb h.hPl h.hP,keep hb h.hQl h.hQ0,keep hb h.hQl h.hQ1,Nat.lt_of_lt_of_le h.hPl hb.size,Nat.lt_of_lt_of_le h.hQl hb.size⟩
def z0b (ps:List (Int × Int)) (p:Int × Int) (zs:List Int):Bool:=zs.any (fun z=>z0h ps z == p)
theorem zi7 (ps:List (Int × Int)) (p:Int × Int) (zs:List Int) (k:Nat) (h:k<zs.length):z0b ps p (zs.take (k+1))=(z0b ps p (zs.take k) || (z0h ps (zs.getD k 0) == p)):=by
 unfold z0b;rw [List.take_succ_eq_append_getElem h,List.any_append]
 simp [List.getD_eq_getElem?_getD,List.getElem?_eq_getElem h]
theorem zms (ps:List (Int × Int)) (p:Int × Int) (zs:List Int) (k:Nat) (h:k<zs.length) (h2:(z0h ps (zs.getD k 0) == p)=true):z0b ps p zs=true:=by
 unfold z0b;rw [List.any_eq_true];refine ⟨zs.getD k 0,?_,h2⟩;rw [List.getD_eq_getElem?_getD,List.getElem?_eq_getElem h];exact List.getElem_mem h
theorem zca (R M P Q:Nat) (a:Option Addr) (c:Nat) (ps:List (Int × Int)) (x y:Int) (za:Option Addr) (zc:Nat) (zs:List Int) (w:World) (hT:TkW w R M P Q a c ps x y) (hz:Ins w za zs) (hn:ps.length<=1048576) (hzn:zs.length<=1048576) :
  Calls Tryz.prog 142 #[.slice za zs.length zc,.func (.func 116) #[] #[.pointer (some ⟨P,0,none⟩),.pointer (some ⟨Q,0,none⟩)]] w fun e w'=>
   (∃ r:Int,e=.returned (.int .i64 r)/\((z0b ps (x,y) zs=true/\0<=r)\/(z0b ps (x,y) zs=false/\r=-1)))/\Below w.heap.size w w':=by
 have HT:Hid (TkW w R M P Q a c ps x y):=hT;have HZ:Hid (Ins w za zs):=hz;have HH:Hid (∀ k,k<zs.length->(z0h ps (zs.getD k 0) == (x,y))=true->z0b ps (x,y) zs=true):=fun k h h2=>zms ps (x,y) zs k h h2
 have HU:Hid (∀ k,k<zs.length->z0b ps (x,y) (zs.take (k+1))=(z0b ps (x,y) (zs.take k) || (z0h ps (zs.getD k 0) == (x,y)))):=fun k h=>zi7 ps (x,y) zs k h
 have HE:Hid (z0b ps (x,y) (zs.take zs.length)=z0b ps (x,y) zs/\z0b ps (x,y) (zs.take 0)=false):=⟨by rw [List.take_length],rfl⟩
 clear hT hz;generalize hlen:zs.length=n at *;have HL:Hid (zs.length=n/\True):=⟨hlen,trivial⟩;clear hlen;generalize z0b ps (x,y) zs=r0 at *
 go_enter Tryz.func142,Tryz.ntmps142
 go_wp2
 go_loopw [8] (fun i wr=>∃ k:Nat,k<=n/\i=.int .i64 k/\z0b ps (x,y) (zs.take k)=false/\Below w.heap.size w wr) (fun i _=>n-(intOf i).toNat)
 case atStart=>exact ⟨0,Nat.zero_le _,rfl,HE.out.2,Below.refl _ _⟩
 case round=>
  obtain ⟨k,hk,rfl,han,hbel⟩:=hrel;have HAN:Hid (z0b ps (x,y) (zs.take k)=false/\True):=⟨han,trivial⟩;clear han
  by_cases hlt:k<n
  ·obtain ⟨b,off,rfl,hb1,hc1⟩:=(HZ.out.below hbel nl).len_pos k (by rw [HL.out.1];exact hlt)
   have c0:=hc1 k (by rw [HL.out.1];exact hlt)
   have hu:=HU.out k hlt;have hh:=HH.out k hlt;rw [HAN.out.1,Bool.false_or] at hu;clear hc1;generalize zs.getD k 0=z at *;have t:=HT.out.below (hbel.mono (by omega):Bw w wr)
   have HCL:=zcj R M P Q a c ps z x y wr t.atl t.pls hn t.hP t.hQ0 t.hQ1 t.hPl t.hQl;clear t;have HU2:Hid (z0b ps (x,y) (zs.take (k+1))=(z0h ps z == (x,y))/\((z0h ps z == (x,y))=true->r0=true)):=⟨hu,hh⟩;clear hu hh;generalize (z0h ps z == (x,y))=bb at *;go_wp2_with fail
   refine HCL.mono ?_;clear HCL;rintro e w1 ⟨rfl,hb1'⟩;have HB1:Hid (Bw w w1):=hbel.trans (hb1'.mono hbel.size);clear hb1' hbel c0 hb1
   cases bb with
   | true=>
    go_wp2
    go_ret;exact ⟨⟨_,rfl,.inl ⟨HU2.out.2 (by trivial),by omega⟩⟩,HB1.out⟩
   | false=>
    go_wp2
    go_roundw
    case rel=>exact ⟨k+1,by omega,by go_num,HU2.out.1,HB1.out⟩
    case measure=>simp [intOf];omega
  ·have hkn:k=n:=by omega
   subst hkn;have HF:Hid (r0=false/\True):=⟨by rw [<-HE.out.1];exact HAN.out.1,trivial⟩
   go_wp2
   go_ret;exact ⟨⟨_,rfl,.inr ⟨HF.out.1,rfl⟩⟩,hbel⟩
theorem z81 (R M P Q:Nat) (a:Option Addr) (c:Nat) (ps:List (Int × Int)) (x y:Int) (za:Option Addr) (zc:Nat) (zs:List Int) (w:World) (hT:TkW w R M P Q a c ps x y) (hz:Ins w za zs) (hn:ps.length<=1048576) (hzn:zs.length<=1048576) :
  Calls Tryz.prog 115 #[.slice za zs.length zc,.func (.func 116) #[] #[.pointer (some ⟨P,0,none⟩),.pointer (some ⟨Q,0,none⟩)]] w fun e w'=>
   e=.returned (.bool (z0b ps (x,y) zs))/\Below w.heap.size w w':=by
 have HI:=zca R M P Q a c ps x y za zc zs w hT hz hn hzn;clear hT hz
 go_enter Tryz.func115,Tryz.ntmps115
 go_wp2_with fail
 refine HI.mono ?_;clear HI;rintro e w1 ⟨⟨r,rfl,hr⟩,hb1⟩;have HB:Hid (Bw w w1):=hb1;clear hb1;rcases hr with ⟨h1,h2⟩ | ⟨h1,rfl⟩
 ·have H1:Hid (z0b ps (x,y) zs=true/\True):=⟨h1,trivial⟩
  clear h1;go_wp2;go_ret;exact ⟨by rw [H1.out.1];simp [h2],HB.out⟩
 ·have H1:Hid (z0b ps (x,y) zs=false/\True):=⟨h1,trivial⟩
  clear h1;go_wp2;go_ret;exact ⟨by rw [H1.out.1];rfl,HB.out⟩
theorem zfb (R M:Nat) (a:Option Addr) (c:Nat) (ps:List (Int × Int)) (x y:Int) (n k:Nat) (w:World) (hA:Atl w R M a ps.length c) (hb:Pls w a ps) (hL:Liv w M n (liv ps k)) (hx:-9223372036854775808<=x/\x<=9223372036854775807) (hn:ps.length<=1048576) (hn2:n<=1000) :
  Calls Tryz.prog 88 #[.pointer (some ⟨R,0,none⟩),.agg #[.int .i64 x,.int .i64 y]] w fun e w'=>
   e=.returned (.bool (z0b ps (x,y) (liv ps k x)))/\Below w.heap.size w w':=by
 have hw:Below w.heap.size w ((w.alloc (Obj.cells #[.pointer (some ⟨R,0,none⟩)] 82)).alloc (Obj.cells #[.int .i64 x,.int .i64 y] 54)):=
  ((Below.refl _ _).alloc nl _).alloc (by simp) _
 have HT:Hid (TkW ((w.alloc (Obj.cells #[.pointer (some ⟨R,0,none⟩)] 82)).alloc (Obj.cells #[.int .i64 x,.int .i64 y] 54)) R M w.heap.size (w.heap.size+1) a c ps x y):=by
  have h1:(w.alloc (Obj.cells #[.pointer (some ⟨R,0,none⟩)] 82)).heap.size=w.heap.size+1:=by simp
  refine ⟨hA.below hw,hb.below hw nl,zb _ (by simp) (by simp),?_,?_,by simp;omega,by simp⟩
  ·rw [<-h1];simp
  ·rw [<-h1];simp
 have HLV:Hid (Liv ((w.alloc (Obj.cells #[.pointer (some ⟨R,0,none⟩)] 82)).alloc (Obj.cells #[.int .i64 x,.int .i64 y] 54)) M n (liv ps k)):=hL.below hw;clear hA hb hL
 go_enter Tryz.func88,Tryz.ntmps88
 go_wp2_with fail
 generalize (w.alloc (Obj.cells #[.pointer (some ⟨R,0,none⟩)] 82)).alloc (Obj.cells #[.int .i64 x,.int .i64 y] 54)=W at *;have hbd:Below W.heap.size W W.drew:=⟨rfl,rfl,rfl,Nat.le_refl _,fun _ _=>rfl⟩
 obtain ⟨v,hlk,hov,hlen⟩:=(HLV.out.below hbd).look hn2 x (WalkArith.wf_i64 hx);obtain ⟨za,zc,rfl⟩:=hov.form;have HCF:=z81 R M w.heap.size (w.heap.size+1) a c ps x y za zc (liv ps k x) W.drew (HT.out.below hbd) hov.ins hn (by omega)
 have hlk2:Sem.run Tryz.prog (Instr.lookup 86 (.map (some M)) (.int .i64 x) false) W.drew=.ok (.slice za (liv ps k x).length zc) W.drew:=hlk;have HC:Hid (W.cell? ⟨w.heap.size,0,none⟩=some (.pointer (some ⟨R,0,none⟩))/\W.cell? ⟨R,1,none⟩=some (.map (some M))/\W.cell? ⟨w.heap.size+1,0,none⟩=some (.int .i64 x)):=⟨HT.out.hP,HT.out.atl.c1,HT.out.hQ0⟩;have p0:=HC.out.1;have p1:=HC.out.2.1;have p2:=HC.out.2.2
 clear hlk hov;generalize hrr:z0b ps (x,y) (liv ps k x)=rr at *;have HRR:Hid (z0b ps (x,y) (liv ps k x)=rr/\True):=⟨hrr,trivial⟩;clear hrr;generalize (liv ps k x).length=zn at *
 go_region_with (go_at_call 115;refine HCF.mono ?_;rintro e w8 ⟨rfl,hb8⟩)
 all_goals
  have HB8:Hid (Below w.heap.size w w8):=hw.trans ((Below.drewS hb8).mono hw.size);clear hb8;go_wp2;go_ret;exact ⟨by rw [HRR.out.1];rfl,HB8.out⟩
open Go.Maps
theorem zln (ps:List (Int × Int)) (k:Nat) (hk:k<=ps.length) (p:Int × Int) (hp:nwh p=false):z0b ps p (liv ps k p.1)=tkn ps p k:=by
 rw [Bool.eq_iff_iff];unfold z0b;rw [List.any_eq_true,znm]
 constructor
 ·rintro ⟨z,hz,he⟩
  obtain ⟨i,hi,rfl,h1,h2⟩:=(zan ps k p.1 z).1 hz;rw [za4 ps i (by omega)] at he
  exact ⟨i,hi,by simpa using he⟩
 ·rintro ⟨i,hi,he⟩
  refine ⟨(i:Int),(zan ps k p.1 i).2 ⟨i,hi,rfl,by rw [he];exact hp,by rw [he]⟩,?_⟩
  rw [za4 ps i (by omega),he]
  simp
theorem Liv.put {w:World} {M n:Nat} {f:Int->List Int} (h:Liv w M n f) (hn:n<=1000) (s:Int) (hs:(Lit.int .i64 s).wf=true) :
  ∃ v,(Instr.lookup 86 (.map (some M)) (.int .i64 s) false).run Tryz.prog w=.ok v w/\OVI w (M+1) v (f s)/\(f s).length<=n /\
   ∀ (w1:World) (v':Value) (z:Int),w.grownBy w1 v.ownBlock->OVI w1 (M+1) v' (f s++[z])->(v'.ownBlock=v.ownBlock\/∃ g,v'.ownBlock=some g/\w.heap.size<=g) ->
    ∃ w2,(Instr.mapUpdate 86 (.map (some M)) (.int .i64 s) v').run Tryz.prog w1=.ok () w2/\Liv w2 M (n+1) (fun t=>if t=s then f s++[z] else f t)/\w1.grownBy w2 (some M):=by
 obtain ⟨D,h1,h2,h3⟩:=h;obtain ⟨v,zs,hrun,hat,hoi,hzl,hback⟩:=h1.at Tryz.lawKI Tryz.underlying86 (Tryz.zeroSI _) (by unfold maxLen;omega) (keyOf_int_mk Tryz.underlying3 hs)
 obtain rfl:zs=f s:=(Itm.of hoi hat).eq (h3 s);refine ⟨v,hrun,⟨hoi.1,fun z hz=>bounds_i64 (hoi.2 z hz)⟩,hzl,fun w1 v' z hg ho hloc=>?_⟩
 have hoi':w1.ownsInts (M+1) 3 .i64 v' (f s++[z]):=⟨ho.1,fun y hy=>WalkArith.wf_i64 (ho.2 y hy)⟩
 obtain ⟨w2,hr2,hg2,hgr2⟩:=hback w1 v' (f s++[z]) hg hoi' (by simp;omega) hloc
 refine ⟨w2,hr2,⟨_,hg2,h2.put _ _,fun t=>?_⟩,hgr2⟩
 by_cases ht:t=s
 ·subst ht
  show Itm _ (if t=t then _ else _)
  rw [if_pos rfl,atKey_put_same h2 (Tryz.lawKI.key (keyOf_int_mk Tryz.underlying3 hs))];exact Itm.of hoi' rfl
 ·show Itm _ (if t=s then _ else _)
  rw [if_neg ht,atKey_put_other (by simpa using ht)]
  exact h3 t
theorem Liv.mono {w:World} {M n m:Nat} {f:Int->List Int} (h:Liv w M n f) (hm:n<=m):Liv w M m f:=by
 obtain ⟨D,⟨es,clock,h1,h2,h3,h4,h5,h6,h7⟩,h8⟩:=h;exact ⟨D,⟨es,clock,h1,h2,by omega,h4,h5,fun x hx zs hz=>by have:=h6 x hx zs hz;omega,h7⟩,h8⟩
theorem zgr (R M:Nat) (a:Option Addr) (c:Nat) (ps:List (Int × Int)) (k n:Nat) (w:World) (hA:Atl w R M a ps.length c) (hb:Pls w a ps) (hL:Liv w M n (liv ps k)) (hMR:M≠R) (hk:k<ps.length) (hn:ps.length<=16) (hn2:n<=1000) :
  Calls Tryz.prog 73 #[.pointer (some ⟨R,0,none⟩),.int .i64 k] w fun e w'=>
   e=.returned (.bool (z14 ps k))/\(z14 ps k=true->Liv w' M (n+1) (liv ps (k+1))/\Atl w' R M a ps.length c)/\Below M w w':=by
 have hMl:=hL.lt;have a0:=hA.c0;have hRl:=hA.lt;have HPO:=z48 a c ps k w hb (by omega)
 rw [za4 ps k hk] at HPO;have HST:Hid (z14 ps k=(nwh (ps.getD k dp) || (rgt (ps.getD k dp) && !tkn ps (ps.getD k dp) k))/\True):=⟨rfl,trivial⟩;have HTK:Hid (nwh (ps.getD k dp)=false->z0b ps (ps.getD k dp) (liv ps k (ps.getD k dp).1)=tkn ps (ps.getD k dp) k):=fun h=>zln ps k (by omega) _ h
 have HNW:Hid (nwh (ps.getD k dp)=true->liv ps (k+1)=liv ps k):=zqn ps k;have HLI0:Hid (nwh (ps.getD k dp)=false->∀ s,liv ps (k+1) s=if s=(ps.getD k dp).1 then liv ps k s++[(k:Int)] else liv ps k s):=zpp ps k
 have HRG:Hid (rP (ps.getD k dp)):=hb.1 _ (zb7 hk);have HLN:Hid (∀ s,(liv ps k s).length<=k):=znz ps k;have HA:Hid (Atl w R M a ps.length c/\Pls w a ps/\Liv w M n (liv ps k)):=⟨hA,hb,hL⟩;clear hA hb hL;generalize ps.getD k dp=q at *;obtain ⟨x,y⟩:=q
 simp only at HPO
 go_enter Tryz.func73,Tryz.ntmps73
 go_wp2_with fail
 refine HPO.mono ?_;clear HPO;rintro e w1 ⟨rfl,hb1⟩;have hb2:Below w.heap.size w (w1.alloc (Obj.cells #[.int .i64 x,.int .i64 y] 54)):=hb1.alloc hb1.size _;have b0:(w1.alloc (Obj.cells #[.int .i64 x,.int .i64 y] 54)).cell? ⟨w1.heap.size,0,none⟩=some (.int .i64 x):=by simp
 have b1:(w1.alloc (Obj.cells #[.int .i64 x,.int .i64 y] 54)).cell? ⟨w1.heap.size,1,none⟩=some (.int .i64 y):=by simp
 have HBK:Hid ((w1.alloc (Obj.cells #[.int .i64 x,.int .i64 y] 54)).heap[w1.heap.size]?=some (.cells #[.int .i64 x,.int .i64 y] 54 (0,0))/\w1.heap.size<(w1.alloc (Obj.cells #[.int .i64 x,.int .i64 y] 54)).heap.size):=⟨heap_alloc_new w1 _,by simp⟩
 have HB2:Hid (Below w.heap.size w (w1.alloc (Obj.cells #[.int .i64 x,.int .i64 y] 54))):=hb2;clear hb1 hb2;go_wp2_with fail
 generalize w1.heap.size=B at *;generalize w1.alloc (Obj.cells #[.int .i64 x,.int .i64 y] 54)=W at *;refine (z5t x y W).mono ?_;rintro e w3 ⟨rfl,hb3⟩;have HB3:Hid (Below w.heap.size w w3):=HB2.out.trans (hb3.mono HB2.out.size);have c0:=keep hb3 HBK.out.2 b0;have c1:=keep hb3 HBK.out.2 b1;have HBK3:Hid (w3.heap[B]?=some (.cells #[.int .i64 x,.int .i64 y] 54 (0,0))/\B<w3.heap.size):=⟨(hb3.block B HBK.out.2).trans HBK.out.1,Nat.lt_of_lt_of_le HBK.out.2 hb3.size⟩
 clear hb3 b0 b1 HB2 HBK a0
 cases hnw:nwh (x,y) with
 | true=>
  have HF:Hid (z14 ps k=true/\liv ps (k+1)=liv ps k):=⟨by rw [HST.out.1,hnw];rfl,HNW.out hnw⟩
  clear HST HTK HNW HLI0 hnw;go_wp2;go_ret;exact ⟨by rw [HF.out.1];rfl,fun _=>⟨by rw [HF.out.2];exact (HA.out.2.2.below HB3.out).mono (by omega),HA.out.1.below HB3.out⟩,HB3.out.mono (by omega)⟩
 | false=>
  have HST1:Hid (z14 ps k=(rgt (x,y) && !tkn ps (x,y) k)/\True):=⟨by rw [HST.out.1,hnw];rfl,trivial⟩
  have HTK1:Hid (z0b ps (x,y) (liv ps k x)=tkn ps (x,y) k/\True):=⟨HTK.out hnw,trivial⟩;have HLI:Hid (∀ s,liv ps (k+1) s=if s=x then liv ps k s++[(k:Int)] else liv ps k s):=HLI0.out hnw
  clear HST HTK HNW HLI0 hnw;go_wp2_with fail
  refine (zjw x y w3).mono ?_;rintro e w4 ⟨rfl,hb4⟩;have HB4:Hid (Below w.heap.size w w4):=HB3.out.trans (hb4.mono HB3.out.size);have d0:=keep hb4 HBK3.out.2 c0;have d1:=keep hb4 HBK3.out.2 c1;have HBK4:Hid (w4.heap[B]?=some (.cells #[.int .i64 x,.int .i64 y] 54 (0,0))/\B<w4.heap.size):=⟨(hb4.block B HBK3.out.2).trans HBK3.out.1,Nat.lt_of_lt_of_le HBK3.out.2 hb4.size⟩;clear hb4 c0 c1 HB3 HBK3
  cases hrg:rgt (x,y) with
  | false=>
   have HF:Hid (z14 ps k=false/\True):=⟨by rw [HST1.out.1,hrg];rfl,trivial⟩
   clear HST1 HTK1 hrg;go_wp2;go_ret;exact ⟨by rw [HF.out.1];rfl,fun h=>(by rw [HF.out.1] at h;cases h),HB4.out.mono (by omega)⟩
  | true=>
   have HST2:Hid (z14 ps k=(!tkn ps (x,y) k)/\True):=⟨by rw [HST1.out.1,hrg];rfl,trivial⟩
   clear HST1 hrg;have HIT:=zfb R M a c ps x y n k w4 (HA.out.1.below HB4.out) (HA.out.2.1.below HB4.out nl) (HA.out.2.2.below HB4.out) HRG.out.1 (by omega) hn2
   rw [HTK1.out.1] at HIT;clear HTK1;go_wp2_with fail
   refine HIT.mono ?_;clear HIT;rintro e V ⟨rfl,hb5⟩;have HB5:Hid (Below w.heap.size w V):=HB4.out.trans (hb5.mono HB4.out.size);have b0:=keep hb5 HBK4.out.2 d0;have HBK5:Hid (V.heap[B]?=some (.cells #[.int .i64 x,.int .i64 y] 54 (0,0))/\B<V.heap.size):=⟨(hb5.block B HBK4.out.2).trans HBK4.out.1,Nat.lt_of_lt_of_le HBK4.out.2 hb5.size⟩;clear hb5 d0 d1 HB4 HBK4
   cases htk:tkn ps (x,y) k with
   | true=>
    have HF:Hid (z14 ps k=false/\True):=⟨by rw [HST2.out.1,htk];rfl,trivial⟩
    clear HST2 htk;go_wp2;go_ret;exact ⟨by rw [HF.out.1];rfl,fun h=>(by rw [HF.out.1] at h;cases h),HB5.out.mono (by omega)⟩
   | false=>
    have HSTT:Hid (z14 ps k=true/\True):=⟨by rw [HST2.out.1,htk];rfl,trivial⟩
    clear HST2 htk;have HLV:Hid (Liv V M n (liv ps k)):=HA.out.2.2.below HB5.out;have hAV:=HA.out.1.below HB5.out;have a1:=hAV.c1;have HBL:Hid (M≠R/\V.heap[R]?=some (.cells #[.slice a ps.length c,.map (some M)] 88 (0,0))/\V.heap[B]?=some (.cells #[.int .i64 x,.int .i64 y] 54 (0,0))/\R<V.heap.size/\B<V.heap.size):=⟨hMR,hAV.blk,HBK5.out.1,hAV.lt,HBK5.out.2⟩;have hVd:Below V.heap.size V V.drew:=⟨rfl,rfl,rfl,Nat.le_refl _,fun _ _=>rfl⟩
    have HBV:Hid (Below M w V.drew):=(HB5.out.mono (by omega)).trans (hVd.mono (by have:=HB5.out.size;omega))
    have hxr:=HRG.out.1;have hlx:=HLN.out x;have hVl:=HLV.out.lt;clear hAV HBK5 hMR HB5;go_wp2_with fail
    all_goals
     refine zj (S:=fun W=>W.cell? ⟨R,1,none⟩=some (.map (some M))/\W.cell? ⟨B,0,none⟩=some (.int .i64 x)) 16 (by kernel_rfl) (by kernel_rfl) (by exact ⟨a1,b0⟩) (fun hHeld=>?_)
     refine tk 0 ?_
     try simp only [tkS]
     refine tk 1 ?_
     try simp only [tkS]
     refine tk 2 ?_
     try simp only [tkS]
     refine tk 3 ?_
     try simp only [tkS]
     refine tk 4 ?_
     try simp only [tkS]
     refine tk 5 ?_
     try simp only [tkS]
     refine tk 6 ?_
     try simp only [tkS]
     refine tk 7 ?_
     try simp only [tkS]
     refine tk 8 ?_
     try simp only [tkS]
     refine tk 9 ?_
     try simp only [tkS]
     refine tk 10 ?_
     try simp only [tkS]
     refine tk 11 ?_
     try simp only [tkS]
     refine tk 13 ?_
     try simp only [tkS]
     refine wpAnyH_ready (rs:=[12,14]) (by kernel_rfl) (by simp) ?_
     refine AllReadyH.cons rfl (fun K hK=>?_) (AllReadyH.cons rfl (fun K hK=>?_) AllReadyH.nil)
     ·obtain ⟨v,hlk,hov,hlen,hput⟩:=(HLV.out.below hVd).put hn2 x (WalkArith.wf_i64 hxr)
      obtain ⟨va,vc,rfl⟩:=hov.form;have hlk2:Sem.run Tryz.prog (Instr.lookup 86 (.map (some M)) (.int .i64 x) false) V.drew=.ok (.slice va (liv ps k x).length vc) V.drew:=hlk;have HPUT:Hid _:=hput;have HOV:Hid (OVI (V.drew.alloc (Obj.cells #[.int .i64 k] 3)) (M+1) (.slice va (liv ps k x).length vc) (liv ps k x)/\M≠R/\(V.drew.alloc (Obj.cells #[.int .i64 k] 3)).heap[R]?=some (.cells #[.slice a ps.length c,.map (some M)] 88 (0,0))/\(V.drew.alloc (Obj.cells #[.int .i64 k] 3)).heap[B]?=some (.cells #[.int .i64 x,.int .i64 y] 54 (0,0))):=⟨hov.below ((Below.refl _ _).alloc nl _),HBL.out.1,(Below.heap_alloc _ _ _ (by exact HBL.out.2.2.2.1)).trans HBL.out.2.1,(Below.heap_alloc _ _ _ (by exact HBL.out.2.2.2.2)).trans HBL.out.2.2.1⟩
      clear hlk hput hov
      go_simp
      refine hK.out _ _ (by exact ⟨a1,b0⟩) (fun hHeld=>?_)
      clear hK K
      try simp only [tkS]
      refine wpAnyH_ready (rs:=[14]) (by kernel_rfl) (by simp) ?_
      refine AllReadyH.cons rfl (fun K hK=>?_) AllReadyH.nil
      go_simp
      refine hK.out _ _ (by exact ⟨zb _ (by exact HBL.out.2.2.2.1) a1,zb _ (by exact HBL.out.2.2.2.2) b0⟩) (fun hHeld=>?_)
      clear hK K hlk2
      try simp only [tkS]
      refine wpAnyH_ready (rs:=[15]) (by kernel_rfl) (by simp) ?_
      refine AllReadyH.cons rfl (fun K hK=>?_) AllReadyH.nil
      refine z5w rfl (z6b (.tmp 34) (.tmp 36) rfl (M+1) (.slice va (liv ps k x).length vc) (liv ps k x) (by simp [Act.eval]) HOV.out.1 V.drew.heap.size (k:Int) (by simp [Act.eval]) (by simp) (by omega) (by omega) (by omega) (by simp;omega) ?_)
      intro v1 w1 hov1 hg1 hat1
      have hg01:V.drew.grownBy w1 (Value.slice va (liv ps k x).length vc).ownBlock:=(World.grownBy_alloc _ _ _).trans hg1;obtain ⟨w2,hr2,hl2,hg2⟩:=HPUT.out w1 v1 k hg01 hov1 (hat1.imp id (fun h=>⟨_,h,by simp⟩))
      obtain ⟨va1,vc1,hv1⟩:=hov1.form;have hln:(liv ps k x++[(k:Int)]).length=(liv ps k x).length+1:=by simp
      rw [hln] at hv1;clear hln;subst hv1;have hne:=HOV.out.2;have A1:=z0c hg1 hne.2.1 (HOV.out.1.blk_ne hne.2.1 (by decide))
      have B1:=z0c hg1 hne.2.2 (HOV.out.1.blk_ne hne.2.2 (by decide))
      have hMR:M≠R:=hne.1;have HEND:Hid (Liv w2 M (n+1) (liv ps (k+1))/\Atl w2 R M a ps.length c/\Below M w w2):=by
       refine ⟨?_,⟨z0c hg2 A1 (by simpa using fun e:R=M=>hMR e.symm)⟩,HBV.out.trans (zau hg01 hg2 (Nat.le_of_lt HLV.out.lt) HOV.out.1)⟩
       have he:(fun t=>if t=x then liv ps k x++[(k:Int)] else liv ps k t)=liv ps (k+1):=by
        funext t
        rw [HLI.out t]
        by_cases ht:t=x
        ·rw [if_pos ht,if_pos ht,ht]
        ·rw [if_neg ht,if_neg ht]
       rw [<-he];exact hl2
      have hr2':Sem.run Tryz.prog (Instr.mapUpdate 86 (.map (some M)) (.int .i64 x) (.slice va1 ((liv ps k x).length+1) vc1)) w1=.ok () w2:=hr2;refine hK.out _ _ (by exact ⟨z3t A1 rfl,z3t B1 rfl⟩) (fun hHeld=>?_)
      clear hK K
      try simp only [tkS]
      refine wpAnyH_done (by kernel_rfl) ?_ _
      simp only [z0d,List.drop_succ_cons,List.drop_zero]
      clear hHeld hl2 hg2 hg1 hov1 hat1 hg01 hr2;go_wp2;go_ret;exact ⟨by rw [HSTT.out.1];rfl,fun _=>⟨HEND.out.1,HEND.out.2.1⟩,HEND.out.2.2⟩
     ·have hVa:Below V.heap.size V (V.drew.alloc (Obj.cells #[.int .i64 k] 3)):=hVd.alloc nl _
      obtain ⟨v,hlk,hov,hlen,hput⟩:=(HLV.out.below hVa).put hn2 x (WalkArith.wf_i64 hxr);obtain ⟨va,vc,rfl⟩:=hov.form;have hlk2:Sem.run Tryz.prog (Instr.lookup 86 (.map (some M)) (.int .i64 x) false) (V.alloc (Obj.cells #[.int .i64 k] 3)).drew=.ok (.slice va (liv ps k x).length vc) (V.alloc (Obj.cells #[.int .i64 k] 3)).drew:=hlk;have HPUT:Hid _:=hput;have HOV:Hid (OVI (V.drew.alloc (Obj.cells #[.int .i64 k] 3)) (M+1) (.slice va (liv ps k x).length vc) (liv ps k x)/\M≠R/\(V.drew.alloc (Obj.cells #[.int .i64 k] 3)).heap[R]?=some (.cells #[.slice a ps.length c,.map (some M)] 88 (0,0))/\(V.drew.alloc (Obj.cells #[.int .i64 k] 3)).heap[B]?=some (.cells #[.int .i64 x,.int .i64 y] 54 (0,0))):=⟨hov,HBL.out.1,(Below.heap_alloc _ _ _ (by exact HBL.out.2.2.2.1)).trans HBL.out.2.1,(Below.heap_alloc _ _ _ (by exact HBL.out.2.2.2.2)).trans HBL.out.2.2.1⟩
      clear hlk hput hov
      go_simp
      refine hK.out _ _ (by exact ⟨zb _ (by exact HBL.out.2.2.2.1) a1,zb _ (by exact HBL.out.2.2.2.2) b0⟩) (fun hHeld=>?_)
      clear hK K
      try simp only [tkS]
      refine wpAnyH_ready (rs:=[12]) (by kernel_rfl) (by simp) ?_
      refine AllReadyH.cons rfl (fun K hK=>?_) AllReadyH.nil
      go_simp
      refine hK.out _ _ (by exact hHeld) (fun hHeld=>?_)
      clear hK K hlk2
      try simp only [tkS]
      refine wpAnyH_ready (rs:=[15]) (by kernel_rfl) (by simp) ?_
      refine AllReadyH.cons rfl (fun K hK=>?_) AllReadyH.nil
      refine z5w rfl (z6b (.tmp 34) (.tmp 36) rfl (M+1) (.slice va (liv ps k x).length vc) (liv ps k x) (by simp [Act.eval]) HOV.out.1 V.drew.heap.size (k:Int) (by simp [Act.eval]) (by simp) (by omega) (by omega) (by omega) (by simp;omega) ?_)
      intro v1 w1 hov1 hg1 hat1
      have hg01:(V.drew.alloc (Obj.cells #[.int .i64 k] 3)).grownBy w1 (Value.slice va (liv ps k x).length vc).ownBlock:=hg1;obtain ⟨w2,hr2,hl2,hg2⟩:=HPUT.out w1 v1 k hg01 hov1 (hat1.imp id (fun h=>⟨_,h,by simp⟩))
      obtain ⟨va1,vc1,hv1⟩:=hov1.form;have hln:(liv ps k x++[(k:Int)]).length=(liv ps k x).length+1:=by simp
      rw [hln] at hv1;clear hln;subst hv1;have hne:=HOV.out.2;have A1:=z0c hg1 hne.2.1 (HOV.out.1.blk_ne hne.2.1 (by decide))
      have B1:=z0c hg1 hne.2.2 (HOV.out.1.blk_ne hne.2.2 (by decide))
      have hMR:M≠R:=hne.1;have HEND:Hid (Liv w2 M (n+1) (liv ps (k+1))/\Atl w2 R M a ps.length c/\Below M w w2):=by
       refine ⟨?_,⟨z0c hg2 A1 (by simpa using fun e:R=M=>hMR e.symm)⟩,HBV.out.trans (zau ((World.grownBy_alloc V.drew _ _).trans hg01) hg2 (Nat.le_of_lt HLV.out.lt) HOV.out.1)⟩
       have he:(fun t=>if t=x then liv ps k x++[(k:Int)] else liv ps k t)=liv ps (k+1):=by
        funext t
        rw [HLI.out t]
        by_cases ht:t=x
        ·rw [if_pos ht,if_pos ht,ht]
        ·rw [if_neg ht,if_neg ht]
       rw [<-he];exact hl2
      have hr2':Sem.run Tryz.prog (Instr.mapUpdate 86 (.map (some M)) (.int .i64 x) (.slice va1 ((liv ps k x).length+1) vc1)) w1=.ok () w2:=hr2;refine hK.out _ _ (by exact ⟨z3t A1 rfl,z3t B1 rfl⟩) (fun hHeld=>?_)
      clear hK K
      try simp only [tkS]
      refine wpAnyH_done (by kernel_rfl) ?_ _
      simp only [z0d,List.drop_succ_cons,List.drop_zero]
      clear hHeld hl2 hg2 hg1 hov1 hat1 hg01 hr2;go_wp2;go_ret;exact ⟨by rw [HSTT.out.1];rfl,fun _=>⟨HEND.out.1,HEND.out.2.1⟩,HEND.out.2.2⟩
end Go.Proofs.YtjmcjbmjgpponaaGreatDoor
