/-
  What MapGet answers, in numbers.
-/
import Derived.Test.YtbapdnhmodklbaaGreatDoorDkW
import Derived.Test.YtbapdnhmodklbaaGreatDoorProg
import Derived.WalkKit
import Derived.ProofKit
import Derived.Below
import Derived.Deep.Draws
import Derived.Test.YtbapdnhmodklbaaGreatDoorRwOk
import Derived.Test.YtbapdnhmodklbaaGreatDoorDcI
namespace Go.Proofs.YtbapdnhmodklbaaGreatDoor
open Go.RowKit
set_option linter.unusedVariables false

def nwh (p:Int × Int):Bool:=p.1 == 0 && p.2 == 0
def rgt (p:Int × Int):Bool:=decide (2≤p.1∧p.1≤23∧0≤p.2∧p.2≤15)
def tkn (ps:List (Int × Int)) (p:Int × Int):Nat→Bool
  | 0 => false
  | k + 1 => tkn ps p k || (ps.getD k dp == p)
def stpP (ps:List (Int × Int)) (i:Nat):Bool:=nwh (ps.getD i dp) || (rgt (ps.getD i dp) && !tkn ps (ps.getD i dp) i)
def okT (ps:List (Int × Int)):Nat→Bool
  | 0 => true
  | k + 1 => okT ps k && stpP ps k
def mapB (ps:List (Int × Int)):Bool:=decide (1≤ps.length∧ps.length≤16) && okT ps ps.length

theorem okT_le (ps:List (Int × Int)) (n k:Nat) (h:okT ps n=true) (hk:k≤n):okT ps k=true:=by
  induction n with
  | zero => obtain rfl : k = 0 := by omega
            exact h
  | succ n ih =>
    simp only [okT,Bool.and_eq_true] at h
    rcases Nat.lt_or_ge k (n+1) with hk' | hk'
    · exact ih h.1 (by omega)
    · obtain rfl:k=n+1:=by omega
      simp only [okT,Bool.and_eq_true];exact h
theorem okT_no (ps:List (Int × Int)) (n k:Nat) (h:stpP ps k=false) (hk:k<n):okT ps n=false:=by
  cases hh:okT ps n
  · rfl
  · have:=okT_le ps n (k+1) hh (by omega)
    simp only [okT,h,Bool.and_false] at this
    cases this
theorem mapB_no (ps:List (Int × Int)) (k:Nat) (h:stpP ps k=false) (hk:k<ps.length):mapB ps=false:=by
  unfold mapB
  rw [okT_no ps _ k h hk,Bool.and_false]
theorem mapB_short (ps:List (Int × Int)) (h:¬ (1≤ps.length∧ps.length≤16)):mapB ps=false:=by
  unfold mapB
  rw [decide_eq_false h,Bool.false_and]
theorem mapB_yes (ps:List (Int × Int)) (h:1≤ps.length∧ps.length≤16) (h2:okT ps ps.length=true):mapB ps=true:=by
  unfold mapB
  rw [decide_eq_true h,h2];rfl
theorem mapB_len (ps:List (Int × Int)) (h:mapB ps=true):1≤ps.length∧ps.length≤16:=by
  unfold mapB at h
  simp only [Bool.and_eq_true,decide_eq_true_eq] at h
  exact h.1
theorem mapB_okT (ps:List (Int × Int)) (h:mapB ps=true):okT ps ps.length=true:=by
  unfold mapB at h
  simp only [Bool.and_eq_true,decide_eq_true_eq] at h
  exact h.2
theorem tkn_iff (ps:List (Int × Int)) (p:Int × Int) (k:Nat):tkn ps p k=true↔∃ i,i<k∧ps.getD i dp=p:=by
  induction k with
  | zero => simp [tkn]
  | succ k ih =>
    simp only [tkn,Bool.or_eq_true,ih,beq_iff_eq]
    constructor
    · rintro (⟨i,hi,h⟩ | h)
      · exact ⟨i,by omega,h⟩
      · exact ⟨k,by omega,h⟩
    · rintro ⟨i,hi,h⟩
      rcases Nat.lt_or_ge i k with h' | h'
      · exact .inl ⟨i,h',h⟩
      · obtain rfl:i=k:=by omega
        exact .inr h
theorem tkn_mono (ps:List (Int × Int)) (p:Int × Int) {k n:Nat} (h:tkn ps p k=true) (hk:k≤n):tkn ps p n=true:=by
  obtain ⟨i,hi,e⟩:=(tkn_iff ps p k).1 h
  exact (tkn_iff ps p n).2 ⟨i,by omega,e⟩
theorem below_dP {B:Nat} {a b:World} (h:Below B a b) (n:Nat):Below B a (b.drewN n):=⟨h.os,h.tape,h.output,h.size,h.block⟩
def gmB (n r:Int):Bool:=decide (1≤n∧n≤16∧6≤r∧r≤24∧n≤3 * (r - 5))

set_option maxHeartbeats 1000000 in
theorem implGeomOk_any (n r:Int) (w:World) :
    Calls Tryz.prog 72 #[.int .i64 n,.int .i64 r] w fun e w'=>e=.returned (.bool (gmB n r))∧w'=w:=by
  have HG:Hid (gmB n r=decide (1≤n∧n≤16∧6≤r∧r≤24∧n≤3 * (r - 5))∧True):=⟨rfl,trivial⟩
  generalize gmB n r=B at *
  go_enter Tryz.func72,Tryz.ntmps72
  by_cases h1:n<1
  · go_wp2
    go_ret
    exact ⟨by rw [HG.out.1,decide_eq_false (by omega)];rfl,rfl⟩
  · by_cases h2:16<n
    · go_wp2
      go_ret
      exact ⟨by rw [HG.out.1,decide_eq_false (by omega)];rfl,rfl⟩
    · by_cases h3:r<6
      · go_wp2
        go_ret
        exact ⟨by rw [HG.out.1,decide_eq_false (by omega)];rfl,rfl⟩
      · by_cases h4:24<r
        · go_wp2
          go_ret
          exact ⟨by rw [HG.out.1,decide_eq_false (by omega)];rfl,rfl⟩
        · by_cases h5:n≤3 * (r - 5)
          · go_wp2
            go_ret
            exact ⟨by rw [HG.out.1,decide_eq_true (by omega)];rfl,rfl⟩
          · go_wp2
            go_ret
            exact ⟨by rw [HG.out.1,decide_eq_false (by omega)];rfl,rfl⟩
set_option linter.unusedSimpArgs false
def chK (cs:List Int) (r:Int) (k:Nat):Prop:=∀ i,i<k→(2≤cs.getD i 0∧cs.getD i 0<r)∧∀ j,j<i→cs.getD j 0≠cs.getD i 0
theorem chK_zero (cs:List Int) (r:Int):chK cs r 0:=fun i hi=>by omega
theorem chK_succ {cs:List Int} {r:Int} {k:Nat} (h:chK cs r k) (h1:2≤cs.getD k 0∧cs.getD k 0<r) (h2:∀ j,j<k→cs.getD j 0≠cs.getD k 0):chK cs r (k+1):=fun i hi=>by
  rcases Nat.lt_or_ge i k with h3 | h3
  · exact h i h3
  · obtain rfl:i=k:=by omega
    exact ⟨h1,h2⟩
theorem php :∀ (n:Nat) (l:List Nat),l.Nodup→(∀ x ∈ l,x<n)→l.length≤n
  | 0, [], _, _ => Nat.le_refl _
  | 0, x :: xs, _, h => absurd (h x (by simp)) (by omega)
  | n + 1, l, hd, h => by
    by_cases hm:n ∈ l
    · have h1:=php n (l.erase n) (hd.erase n) (fun x hx=>by have h2:=hd.mem_erase_iff.1 hx;have h3:=h x h2.2;have:=h2.1;omega)
      rw [List.length_erase_of_mem hm] at h1
      omega
    · exact Nat.le_succ_of_le (php n l hd (fun x hx=>by have h2:=h x hx;have h3:x≠n:=fun e=>hm (e ▸ hx);omega))
theorem chK_len {cs:List Int} {r:Nat} (h:chK cs r cs.length):cs.length≤r:=by
  have h1:=php r (cs.map Int.toNat) ?_ ?_
  · simpa using h1
  · refine List.pairwise_iff_getElem.2 fun i j hi hj hij=>?_
    simp only [List.length_map] at hi hj
    have h2:=(h j hj).2 i hij
    have h3:=(h i hi).1
    have h4:=(h j hj).1
    simp only [List.getElem_map]
    simp only [List.getD_eq_getElem?_getD,List.getElem?_eq_getElem hi,List.getElem?_eq_getElem hj,Option.getD_some] at h2 h3 h4
    omega
  · intro x hx
    obtain ⟨z,hz,rfl⟩:=List.mem_map.1 hx
    obtain ⟨i,hi,rfl⟩:=List.mem_iff_getElem.1 hz
    have h3:=(h i hi).1
    simp only [List.getD_eq_getElem?_getD,List.getElem?_eq_getElem hi,Option.getD_some] at h3
    omega
structure DkG (f:List Int→Option (List Int)) (d:DkV):Prop where
  raw:rok d.ss d.ps=true
  map:mapB d.ms=true
  sav:mapB d.vs=true
  len:d.ms.length=d.vs.length
  geo:gmB d.ms.length d.ss.length=true
  pm:∀ i,i<d.ms.length→(d.ms.getD i dp).1<d.ss.length
  ps:∀ i,i<d.vs.length→(d.vs.getD i dp).1<d.ss.length
  e:0≤d.E∧d.E≤60000
  o:0≤d.O∧d.O≤60000
  ch:chK d.cs d.ss.length d.cs.length
  op:PkR f d.F d.G d.os
  f0:d.F=0
  g0:d.G=0
  ad:∀ i,i<d.os.length→(d.os.getD i de).n<d.ms.length
theorem DkG.same {f:List Int→Option (List Int)} {d e:DkV} (h:DkG f d) (hs:DkS d e):DkG f e:=by
  obtain ⟨h1,h2,h3,h4,h5,h6,h7,h8,h9,h10,h11,h12,h13,h14⟩:=h
  have l1:=len_ctE hs.ss
  have l2:=len_ctE hs.os
  rw [hs.ms] at h2 h4 h5 h6 h14
  rw [hs.vs] at h3 h4 h7
  rw [hs.cs] at h10
  rw [hs.E] at h8
  rw [hs.O] at h9
  rw [l1] at h5 h6 h7 h10
  rw [hs.F,hs.G] at h11
  exact ⟨by rw [← rok_ct hs.ss hs.ps];exact h1,h2,h3,h4,h5,h6,h7,h8,h9,h10,h11.ct hs.os,hs.F ▸ h12,hs.G ▸ h13,fun i hi=>by rw [← n_ct hs.os i];exact h14 i (by omega)⟩
def DkA (f:List Int→Option (List Int)) (d:DkV) (w:World) (r:Ending) (w':World):Prop:=((DkG f d∧r=.returned (.bool true))∨(¬ DkG f d∧r=.returned (.bool false)))∧Below w.heap.size w w'
set_option maxRecDepth 20000 in
set_option maxHeartbeats 8000000 in
theorem specMapOk_any (a:Option Addr) (cap:Nat) (ps:List (Int × Int)) (w:World) (hb:Pls w a ps) (hn:ps.length≤1048576) :
    Calls Tryz.prog 36 #[.agg #[.slice a ps.length cap]] w fun e w'=>e=.returned (.bool (mapB ps))∧Below w.heap.size w w':=by
  have hw:Below w.heap.size w (w.alloc (Obj.cells #[Value.slice a ps.length cap] 42)):=(Below.refl _ _).alloc (Nat.le_refl _) _
  have HB:Hid (Pls (w.alloc (Obj.cells #[Value.slice a ps.length cap] 42)) a ps):=hb.alloc _
  by_cases hl:1≤ps.length∧ps.length≤16
  · have HY:Hid (okT ps ps.length=true→mapB ps=true):=mapB_yes ps hl
    have HN:Hid (∀ k,stpP ps k=false→k<ps.length→mapB ps=false):=mapB_no ps
    clear hb
    generalize mapB ps=R at *
    generalize hlen:ps.length=n at *
    have HL:Hid (ps.length=n∧True):=⟨hlen,trivial⟩
    clear hlen hn
    obtain ⟨hl1,hl2⟩:=hl
    have hzz:(w.alloc (Obj.cells #[Value.slice a n cap] 42)).cell? ⟨w.heap.size,0,none⟩=some (.slice a n cap):=by simp
    have hzs:w.heap.size<(w.alloc (Obj.cells #[Value.slice a n cap] 42)).heap.size:=by simp
    go_enter Tryz.func36,Tryz.ntmps36
    go_wp2
    generalize w.alloc (Obj.cells #[Value.slice a n cap] 42)=W at *
    go_loopw [3] (fun i wr=>∃ k:Nat,k≤n∧i=.int .i64 k∧okT ps k=true∧Below W.heap.size W wr) (fun i _=>n - (intOf i).toNat)
    case atStart=>exact ⟨0,Nat.zero_le _,rfl,rfl,Below.refl _ _⟩
    case round=>
      obtain ⟨k,hk,rfl,hok,hbel⟩:=hrel
      have HOK:Hid (okT ps k=true∧True):=⟨hok,trivial⟩
      clear hok
      have p0:=keep hbel hzs hzz
      have hWs:=hbel.size
      by_cases hlt:k<n
      · obtain ⟨b,off,rfl,hb1,hc1⟩:=(HB.out.below hbel (Nat.le_refl _)).len_pos k (by rw [HL.out.1];exact hlt)
        obtain ⟨c0,c1⟩:=hc1 k (by rw [HL.out.1];exact hlt)
        have HC:Hid (∀ i,i<n→wr.cell? ⟨b,off+i * 2,none⟩=some (.int .i64 (ps.getD i dp).1)∧wr.cell? ⟨b,off+i * 2+1,none⟩=some (.int .i64 (ps.getD i dp).2)):=fun i hi=>hc1 i (by rw [HL.out.1];exact hi)
        have HG:Hid (ps.getD k dp=ps.getD k dp∧(∀ q,q=ps.getD k dp→stpP ps k=(nwh q || (rgt q && !tkn ps q k)))):=⟨rfl,fun q hq=>by rw [hq];rfl⟩
        clear hc1
        generalize hp:ps.getD k dp=p at *
        have HP:Hid (ps.getD k dp=p∧True):=⟨hp,trivial⟩
        clear hp
        obtain ⟨x,y⟩:=p
        simp only at c0 c1
        have hST:=HG.out.2 (x,y) rfl
        clear HG
        by_cases h0:x=0∧y=0
        · obtain ⟨rfl,rfl⟩:=h0
          have HOK2:Hid (okT ps (k+1)=true∧True):=⟨by simp only [okT,HOK.out.1,hST];rfl,trivial⟩
          clear hST HP
          go_wp2
          go_roundw
          case rel=>exact ⟨k+1,by omega,by go_num,HOK2.out.1,hbel.alloc (by omega) _⟩
          case measure=>simp [intOf];omega
        · have hnw:nwh (x,y)=false:=by
            unfold nwh
            simp only [Bool.and_eq_false_iff,beq_eq_false_iff_ne]
            omega
          rw [hnw,Bool.false_or] at hST
          have HST:Hid (stpP ps k=(rgt (x,y) && !tkn ps (x,y) k)∧True):=⟨hST,trivial⟩
          clear hST hnw
          by_cases hr:2≤x∧x≤23∧0≤y∧y≤15
          · obtain ⟨r1,r2,r3,r4⟩:=hr
            have hrg:rgt (x,y)=true:=decide_eq_true ⟨r1,r2,r3,r4⟩
            have HST2:Hid (stpP ps k=(!tkn ps (x,y) k)∧True):=⟨by rw [HST.out.1,hrg];rfl,trivial⟩
            clear hrg HST
            have x0:¬ x=0:=by omega
            clear h0
            go_wp2
            have hba:Below wr.heap.size wr (wr.alloc (Obj.cells #[Value.int IntKind.i64 x,Value.int IntKind.i64 y] 92)):=(Below.refl _ _).alloc (Nat.le_refl _) _
            have q0:=keep hba (by omega) p0
            have e0:(wr.alloc (Obj.cells #[Value.int IntKind.i64 x,Value.int IntKind.i64 y] 92)).cell? ⟨wr.heap.size,0,none⟩=some (.int .i64 x):=by simp
            have e1:(wr.alloc (Obj.cells #[Value.int IntKind.i64 x,Value.int IntKind.i64 y] 92)).cell? ⟨wr.heap.size,1,none⟩=some (.int .i64 y):=by simp
            have HBV:Hid (Below W.heap.size W (wr.alloc (Obj.cells #[Value.int IntKind.i64 x,Value.int IntKind.i64 y] 92))):=hbel.alloc (by omega) _
            have HC2:Hid (∀ i,i<n→(wr.alloc (Obj.cells #[Value.int IntKind.i64 x,Value.int IntKind.i64 y] 92)).cell? ⟨b,off+i * 2,none⟩=some (.int .i64 (ps.getD i dp).1)∧(wr.alloc (Obj.cells #[Value.int IntKind.i64 x,Value.int IntKind.i64 y] 92)).cell? ⟨b,off+i * 2+1,none⟩=some (.int .i64 (ps.getD i dp).2)):=fun i hi=>⟨keep hba hb1 (HC.out i hi).1,keep hba hb1 (HC.out i hi).2⟩
            have HBV0:Hid (Below w.heap.size w (wr.alloc (Obj.cells #[Value.int IntKind.i64 x,Value.int IntKind.i64 y] 92))):=hw.trans (HBV.out.mono (by omega))
            clear hba HC p0 c0 c1 hbel hb1
            generalize wr.heap.size=Q at *
            generalize wr.alloc (Obj.cells #[Value.int IntKind.i64 x,Value.int IntKind.i64 y] 92)=V at *
            go_loopw [5] (fun i wv=>∃ (j m:Nat),j≤k∧i=.int .i64 j∧wv=V.drewN m∧tkn ps (x,y) j=false) (fun i _=>k - (intOf i).toNat)
            case atStart=>exact ⟨0,0,Nat.zero_le _,rfl,rfl,rfl⟩
            case round=>
              obtain ⟨j,m,hj,rfl,rfl,htk⟩:=hrel
              have HTK:Hid (tkn ps (x,y) j=false∧True):=⟨htk,trivial⟩
              clear htk
              by_cases hjk:j<k
              · obtain ⟨d0,d1⟩:=HC2.out j (by omega)
                have HTS:Hid (∀ q,q=ps.getD j dp→tkn ps (x,y) (j+1)=(q == (x,y))):=fun q hq=>by simp only [tkn,HTK.out.1,Bool.false_or,hq]
                have hTS:=HTS.out (ps.getD j dp) rfl
                clear HTS HC2
                generalize ps.getD j dp=q at *
                obtain ⟨x2,y2⟩:=q
                simp only at d0 d1
                by_cases he:x2=x∧y2=y
                · obtain ⟨rfl,rfl⟩:=he
                  have HF:Hid (R=false∧True):=⟨HN.out k (by rw [HST2.out.1,tkn_mono ps (x2,y2) (k:=j+1) (by rw [hTS];simp) (by omega)];rfl) hlt,trivial⟩
                  clear hTS
                  go_wp2
                  go_quiet (fail)
                  go_wp2
                  go_ret
                  exact ⟨by rw [HF.out.1];rfl,below_dP (below_dP HBV0.out _) _⟩
                · have HT2:Hid (tkn ps (x,y) (j+1)=false∧True):=⟨by rw [hTS];simp only [beq_eq_false_iff_ne,ne_eq,Prod.mk.injEq];exact he,trivial⟩
                  clear hTS
                  have hc:x2≠x∨(x2=x∧y2≠y):=by omega
                  clear he
                  rcases hc with hc | ⟨rfl,hc⟩
                  all_goals
                    go_wp2
                    go_quiet (fail)
                    go_wp2
                    go_roundw
                    case rel=>exact ⟨j+1,_,by omega,by go_num,rfl,HT2.out.1⟩
                    case measure=>simp [intOf];omega
              · have hjk2:j=k:=by omega
                subst hjk2
                have HOK2:Hid (okT ps (j+1)=true∧True):=⟨by simp only [okT,HOK.out.1,HST2.out.1,HTK.out.1];rfl,trivial⟩
                clear HC2
                go_wp2
                go_roundw
                case rel=>exact ⟨j+1,by omega,by go_num,HOK2.out.1,below_dP HBV.out _⟩
                case measure=>simp [intOf];omega
          · have hrg:rgt (x,y)=false:=decide_eq_false hr
            have HF:Hid (R=false∧True):=⟨HN.out k (by rw [HST.out.1,hrg];rfl) hlt,trivial⟩
            clear HST hrg
            have hbv:=hbel.alloc (o:=Obj.cells #[Value.int IntKind.i64 x,Value.int IntKind.i64 y] 92) (by omega)
            have hcs:x<2∨(2≤x∧24≤x)∨(2≤x∧x<24∧y<0)∨(2≤x∧x<24∧0≤y∧16≤y):=by omega
            have hcz:¬ x=0∨(x=0∧¬ y=0):=by omega
            clear hr h0
            rcases hcs with h1 | ⟨h1,h2⟩ | ⟨h1,h2,h3⟩ | ⟨h1,h2,h3,h4⟩
            all_goals
              rcases hcz with hz | ⟨rfl,hz⟩
              all_goals first
                | omega
                | (go_wp2
                   go_ret
                   exact ⟨by rw [HF.out.1];rfl,hw.trans (hbv.mono (by omega))⟩)
      · have hkn:k=n:=by omega
        subst hkn
        have HF:Hid (R=true∧True):=⟨HY.out HOK.out.1,trivial⟩
        go_wp2
        go_ret
        exact ⟨by rw [HF.out.1];rfl,hw.trans (hbel.mono (by omega))⟩
  · rw [mapB_short ps hl]
    have key:(ps.length:Int)<1∨(1≤(ps.length:Int)∧16<(ps.length:Int)):=by omega
    clear hl HB hb
    rcases key with h | ⟨h,h2⟩
    all_goals
      go_enter Tryz.func36,Tryz.ntmps36
      go_wp2
      go_ret
      exact ⟨rfl,hw⟩
set_option maxHeartbeats 1000000 in
theorem specGeomOk_any (n r:Int) (w:World) :
    Calls Tryz.prog 37 #[.int .i64 n,.int .i64 r] w fun e w'=>e=.returned (.bool (gmB n r))∧w'=w:=by
  have HG:Hid (gmB n r=decide (1≤n∧n≤16∧6≤r∧r≤24∧n≤3 * (r - 5))∧True):=⟨rfl,trivial⟩
  generalize gmB n r=B at *
  go_enter Tryz.func37,Tryz.ntmps37
  by_cases h1:n<1
  · have g1:¬ 1≤n:=by omega
    go_wp2
    go_ret
    exact ⟨by rw [HG.out.1,decide_eq_false (by omega)];rfl,rfl⟩
  · have g1:1≤n:=by omega
    by_cases h2:16<n
    · have g2:¬ n≤16:=by omega
      go_wp2
      go_ret
      exact ⟨by rw [HG.out.1,decide_eq_false (by omega)];rfl,rfl⟩
    · have g2:n≤16:=by omega
      by_cases h3:r<6
      · have g3:¬ 6≤r:=by omega
        go_wp2
        go_ret
        exact ⟨by rw [HG.out.1,decide_eq_false (by omega)];rfl,rfl⟩
      · have g3:6≤r:=by omega
        by_cases h4:24<r
        · have g4:¬ r≤24:=by omega
          go_wp2
          go_ret
          exact ⟨by rw [HG.out.1,decide_eq_false (by omega)];rfl,rfl⟩
        · have g4:r≤24:=by omega
          by_cases h5:n≤3 * (r - 5)
          · go_wp2
            go_ret
            exact ⟨by rw [HG.out.1,decide_eq_true (by omega)];rfl,rfl⟩
          · go_wp2
            go_ret
            exact ⟨by rw [HG.out.1,decide_eq_false (by omega)];rfl,rfl⟩
set_option maxHeartbeats 1600000 in
theorem l9places_any (a:Option Addr) (cap:Nat) (ps:List (Int × Int)) (r:Int) (w:World) (hb:Pls w a ps) (hn:ps.length≤1048576) :
    Calls Tryz.prog 38 #[.agg #[.slice a ps.length cap],.int .i64 r] w fun e w'=>(((∀ i,i<ps.length→(ps.getD i dp).1<r)∧e=.returned (.bool true))∨((∃ i,i<ps.length∧¬ (ps.getD i dp).1<r)∧e=.returned (.bool false)))∧Below w.heap.size w w':=by
  have hw:Below w.heap.size w (w.alloc (Obj.cells #[Value.slice a ps.length cap] 42)):=(Below.refl _ _).alloc (Nat.le_refl _) _
  have t0:(w.alloc (Obj.cells #[Value.slice a ps.length cap] 42)).cell? ⟨w.heap.size,0,none⟩=some (.slice a ps.length cap):=by simp
  have HB:Hid (Pls w a ps):=hb
  clear hb
  generalize hlen:ps.length=n at *
  have HL:Hid (ps.length=n∧True):=⟨hlen,trivial⟩
  clear hlen
  go_enter Tryz.func38,Tryz.ntmps38
  go_wp2
  generalize w.alloc (Obj.cells #[Value.slice a n cap] 42)=W0 at *
  go_loopw [5] (fun i wr=>∃ k:Nat,k≤n∧i=.int .i64 k∧(∀ j,j<k→(ps.getD j dp).1<r)∧wr=W0) (fun i _=>n - (intOf i).toNat)
  case atStart=>exact ⟨0,Nat.zero_le _,rfl,fun j hj=>by omega,rfl⟩
  case round=>
    obtain ⟨k,hk,rfl,hall,rfl⟩:=hrel
    have HA:Hid (∀ j,j<k→(ps.getD j dp).1<r):=hall
    clear hall
    by_cases hlt:k<n
    · obtain ⟨b,off,rfl,hbl,hc⟩:=(HB.out.below hw (Nat.le_refl _)).2 (by rw [HL.out.1];omega)
      have c0:=(hc k (by rw [HL.out.1];exact hlt)).1
      clear hc
      have HS:Hid (∀ x,(ps.getD k dp).1=x→x<r→∀ j,j<k+1→(ps.getD j dp).1<r):=fun x hx h j hj=>by
        rcases Nat.lt_or_ge j k with h3 | h3
        · exact HA.out j h3
        · obtain rfl:j=k:=by omega
          rw [hx];exact h
      have HN:Hid (∀ x,(ps.getD k dp).1=x→¬ x<r→∃ i,i<n∧¬ (ps.getD i dp).1<r):=fun x hx h=>⟨k,hlt,by rw [hx];exact h⟩
      have hs:=HS.out _ rfl
      have hn':=HN.out _ rfl
      generalize (ps.getD k dp).1=x at *
      by_cases hx:x<r
      · have HH:Hid (∀ j,j<k+1→(ps.getD j dp).1<r):=hs hx
        clear hs hn' HS HN HA
        go_wp2
        go_roundw
        case rel=>exact ⟨k+1,by omega,by go_num,HH.out,by trivial⟩
        case measure=>simp [intOf];omega
      · have HH:Hid (∃ i,i<n∧¬ (ps.getD i dp).1<r):=hn' hx
        clear hs hn' HS HN HA
        go_wp2
        go_ret
        exact ⟨.inr ⟨HH.out,rfl⟩,hw⟩
    · have hkn:k=n:=by omega
      subst hkn
      go_wp2
      go_ret
      exact ⟨.inl ⟨HA.out,rfl⟩,hw⟩

set_option maxHeartbeats 1600000 in
theorem l9has_any (a:Option Addr) (cap:Nat) (zs:List Int) (x:Int) (w:World) (hb:Ins w a zs) (hn:zs.length≤1048576) :
    Calls Tryz.prog 40 #[.slice a zs.length cap,.int .i64 x] w fun e w'=>(((∃ i,i<zs.length∧zs.getD i 0=x)∧e=.returned (.bool true))∨((∀ i,i<zs.length→zs.getD i 0≠x)∧e=.returned (.bool false)))∧w'=w:=by
  have HB:Hid (Ins w a zs):=hb
  clear hb
  generalize hlen:zs.length=n at *
  have HL:Hid (zs.length=n∧True):=⟨hlen,trivial⟩
  clear hlen
  go_enter Tryz.func40,Tryz.ntmps40
  go_wp2
  go_loopw [5] (fun i wr=>∃ k:Nat,k≤n∧i=.int .i64 k∧(∀ j,j<k→zs.getD j 0≠x)∧wr=w) (fun i _=>n - (intOf i).toNat)
  case atStart=>exact ⟨0,Nat.zero_le _,rfl,fun j hj=>by omega,rfl⟩
  case round=>
    obtain ⟨k,hk,rfl,hall,rfl⟩:=hrel
    have HA:Hid (∀ j,j<k→zs.getD j 0≠x):=hall
    clear hall
    by_cases hlt:k<n
    · obtain ⟨b,off,rfl,hbl,hc⟩:=HB.out.2 (by rw [HL.out.1];omega)
      have c0:=hc k (by rw [HL.out.1];exact hlt)
      clear hc
      have HS:Hid (∀ y,zs.getD k 0=y→y≠x→∀ j,j<k+1→zs.getD j 0≠x):=fun y hy h j hj=>by
        rcases Nat.lt_or_ge j k with h3 | h3
        · exact HA.out j h3
        · obtain rfl:j=k:=by omega
          rw [hy];exact h
      have HN:Hid (∀ y,zs.getD k 0=y→y=x→∃ i,i<n∧zs.getD i 0=x):=fun y hy h=>⟨k,hlt,by rw [hy];exact h⟩
      have hs:=HS.out _ rfl
      have hn':=HN.out _ rfl
      generalize zs.getD k 0=y at *
      by_cases hx:y=x
      · have HH:Hid (∃ i,i<n∧zs.getD i 0=x):=hn' hx
        clear hs hn' HS HN HA
        subst hx
        go_wp2
        go_ret
        exact ⟨.inl ⟨HH.out,rfl⟩,rfl⟩
      · have HH:Hid (∀ j,j<k+1→zs.getD j 0≠x):=hs hx
        clear hs hn' HS HN HA
        have hxb:(y == x)=false:=by simp [hx]
        go_wp2
        go_roundw
        case rel=>exact ⟨k+1,by omega,by go_num,HH.out,by trivial⟩
        case measure=>simp [intOf];omega
    · have hkn:k=n:=by omega
      subst hkn
      go_wp2
      go_ret
      exact ⟨.inr ⟨HA.out,rfl⟩,rfl⟩
theorem ins_take {w:World} {a:Option Addr} {zs:List Int} (h:Ins w a zs) (k:Nat) (hk:k≤zs.length):Ins w a (zs.take k):=by
  refine ⟨fun z hz=>h.1 z (List.mem_of_mem_take hz),fun h0=>?_⟩
  have hl:(zs.take k).length=k:=by simp;omega
  obtain ⟨b,off,e,hb,hc⟩:=h.2 (by omega)
  refine ⟨b,off,e,hb,fun i hi=>?_⟩
  rw [hl] at hi
  rw [hc i (by omega)]
  simp [List.getD_eq_getElem?_getD,List.getElem?_take,hi]
theorem sectorOk_any (x:Int) (w:World) :
    Calls Tryz.prog 118 #[.int .i64 x] w fun e w'=>e=.returned (.bool (decide (2≤x∧x≤23)))∧w'=w:=by
  have key:(2≤x∧x<24)∨x<2∨(2≤x∧24≤x):=by omega
  rcases key with ⟨h1,h2⟩ | h1 | ⟨h1,h2⟩
  · rw [decide_eq_true (show 2≤x∧x≤23 by omega)]
    go_enter Tryz.func118,Tryz.ntmps118
    go_wp2
    go_ret
    exact ⟨by simp [h1,h2],rfl⟩
  · rw [decide_eq_false (show ¬ (2≤x∧x≤23) by omega)]
    go_enter Tryz.func118,Tryz.ntmps118
    go_wp2
    go_ret
    exact ⟨rfl,rfl⟩
  · rw [decide_eq_false (show ¬ (2≤x∧x≤23) by omega)]
    have h3:¬ x<24:=by omega
    go_enter Tryz.func118,Tryz.ntmps118
    go_wp2
    go_ret
    exact ⟨by simp [h3],rfl⟩

set_option maxHeartbeats 800000 in
theorem isNowhere_any (x y:Int) (w:World) :
    Calls Tryz.prog 106 #[.agg #[.int .i64 x,.int .i64 y]] w fun e w'=>e=.returned (.bool (nwh (x,y)))∧Below w.heap.size w w':=by
  have key:(x=0∧y=0)∨(x=0∧¬ y=0)∨¬ x=0:=by omega
  rcases key with ⟨rfl,rfl⟩ | ⟨rfl,h⟩ | h
  · go_enter Tryz.func106,Tryz.ntmps106
    go_wp2
    go_ret
    exact ⟨rfl,(Below.refl _ _).alloc (Nat.le_refl _) _⟩
  · rw [show nwh (0,y)=false from by unfold nwh;simp [h]]
    go_enter Tryz.func106,Tryz.ntmps106
    go_wp2
    go_ret
    exact ⟨rfl,(Below.refl _ _).alloc (Nat.le_refl _) _⟩
  · rw [show nwh (x,y)=false from by unfold nwh;simp [h]]
    go_enter Tryz.func106,Tryz.ntmps106
    go_wp2
    go_ret
    exact ⟨rfl,(Below.refl _ _).alloc (Nat.le_refl _) _⟩

set_option maxHeartbeats 800000 in
theorem right_any (x y:Int) (w:World) :
    Calls Tryz.prog 107 #[.agg #[.int .i64 x,.int .i64 y]] w fun e w'=>e=.returned (.bool (rgt (x,y)))∧Below w.heap.size w w':=by
  have hw:Below w.heap.size w (w.alloc (Obj.cells #[Value.int IntKind.i64 x,Value.int IntKind.i64 y] 92)):=(Below.refl _ _).alloc (Nat.le_refl _) _
  have key:(2≤x∧x≤23)∨¬ (2≤x∧x≤23):=by omega
  rcases key with h | h
  · have kk:(0≤y∧y<16)∨¬ (0≤y)∨(0≤y∧¬ y<16):=by omega
    rcases kk with ⟨h1,h2⟩ | h1 | ⟨h1,h2⟩
    · rw [show rgt (x,y)=true from decide_eq_true ⟨h.1,h.2,h1,by simp only;omega⟩]
      go_enter Tryz.func107,Tryz.ntmps107
      go_wp2_with fail
      refine (sectorOk_any x _).mono ?_
      rintro e w1 ⟨rfl,rfl⟩
      rw [decide_eq_true h]
      go_wp2
      go_ret
      exact ⟨by simp [h1,h2],hw⟩
    · rw [show rgt (x,y)=false from decide_eq_false (fun hh=>h1 hh.2.2.1)]
      go_enter Tryz.func107,Tryz.ntmps107
      go_wp2_with fail
      refine (sectorOk_any x _).mono ?_
      rintro e w1 ⟨rfl,rfl⟩
      rw [decide_eq_true h]
      go_wp2
      go_ret
      exact ⟨by simp [h1],hw⟩
    · rw [show rgt (x,y)=false from decide_eq_false (fun hh=>h2 (by have:=hh.2.2.2;simp only at this;omega))]
      go_enter Tryz.func107,Tryz.ntmps107
      go_wp2_with fail
      refine (sectorOk_any x _).mono ?_
      rintro e w1 ⟨rfl,rfl⟩
      rw [decide_eq_true h]
      go_wp2
      go_ret
      exact ⟨by simp [h1,h2],hw⟩
  · rw [show rgt (x,y)=false from decide_eq_false (fun hh=>h ⟨hh.1,hh.2.1⟩)]
    go_enter Tryz.func107,Tryz.ntmps107
    go_wp2_with fail
    refine (sectorOk_any x _).mono ?_
    rintro e w1 ⟨rfl,rfl⟩
    rw [decide_eq_false h]
    go_wp2
    go_ret
    exact ⟨rfl,hw⟩

theorem hasP_any (a:Option Addr) (n c:Nat) (x:Int) (w:World) (hn:n≤1048576) :
    Calls Tryz.prog 117 #[.slice a n c,.int .i64 x] w fun e w'=>e=.returned (.bool (decide (0≤x∧x<n)))∧w'=w:=by
  have key:(0≤x∧x<n)∨¬ 0≤x∨(0≤x∧¬ x<n):=by omega
  rcases key with ⟨h1,h2⟩ | h1 | ⟨h1,h2⟩
  · rw [decide_eq_true ⟨h1,h2⟩]
    go_enter Tryz.func117,Tryz.ntmps117
    go_wp2
    go_ret
    exact ⟨by simp [h1,h2],rfl⟩
  · rw [decide_eq_false (fun hh=>h1 hh.1)]
    go_enter Tryz.func117,Tryz.ntmps117
    go_wp2
    go_ret
    exact ⟨by simp [h1],rfl⟩
  · rw [decide_eq_false (fun hh=>h2 hh.2)]
    go_enter Tryz.func117,Tryz.ntmps117
    go_wp2
    go_ret
    exact ⟨by simp [h1,h2],rfl⟩

def plcO (ps:List (Int × Int)) (x:Int):Int × Int:=if 0≤x∧x<ps.length then ps.getD x.toNat dp else dp

set_option maxHeartbeats 800000 in
theorem placeOf_any (a:Option Addr) (c:Nat) (ps:List (Int × Int)) (x:Int) (w:World) (hb:Pls w a ps) (hn:ps.length≤1048576) :
    Calls Tryz.prog 105 #[.slice a ps.length c,.int .i64 x] w fun e w'=>e=.returned (.agg #[.int .i64 (plcO ps x).1,.int .i64 (plcO ps x).2])∧Below w.heap.size w w':=by
  have hw:Below w.heap.size w (w.alloc (Obj.cells #[Value.int IntKind.i64 0,Value.int IntKind.i64 0] 92)):=(Below.refl _ _).alloc (Nat.le_refl _) _
  by_cases h:0≤x∧x<ps.length
  · obtain ⟨k,rfl⟩:=Int.eq_ofNat_of_zero_le h.1
    have hk:k<ps.length:=by omega
    have he:plcO ps (k:Nat)=ps.getD k dp:=by unfold plcO;rw [if_pos h,Int.toNat_natCast]
    rw [he]
    obtain ⟨b,off,rfl,hb1,hc1⟩:=(hb.alloc (Obj.cells #[Value.int IntKind.i64 0,Value.int IntKind.i64 0] 92)).len_pos k hk
    obtain ⟨c0,c1⟩:=hc1 k hk
    have hbw:b<w.heap.size:=by
      obtain ⟨b',off',e,hb',_⟩:=hb.2 (by omega)
      simp at e
      omega
    clear hc1 he hb
    generalize ps.getD k dp=p at *
    generalize ps.length=n at *
    obtain ⟨x,y⟩:=p
    simp only at c0 c1 ⊢
    go_enter Tryz.func105,Tryz.ntmps105
    go_wp2_with fail
    refine (hasP_any _ n c k _ hn).mono ?_
    rintro e w1 ⟨rfl,rfl⟩
    rw [decide_eq_true h]
    go_wp2
    refine bodyPost_ret (v:=.agg #[.int .i64 x,.int .i64 y]) (by simp [results,Tryz.results105,go_sem]) rfl ⟨rfl,?_⟩
    repeat (refine Below.setCell ?_ (by first | (simp;done) | (simp;omega)) _)
    first | exact hw | exact (Below.refl _ _).alloc (Nat.le_refl _) _
  · have he:plcO ps x=dp:=by unfold plcO;rw [if_neg h]
    rw [he]
    clear he hb
    go_enter Tryz.func105,Tryz.ntmps105
    go_wp2_with fail
    refine (hasP_any a ps.length c x _ hn).mono ?_
    rintro e w1 ⟨rfl,rfl⟩
    rw [decide_eq_false h]
    go_wp2
    refine bodyPost_ret (v:=.agg #[.int .i64 0,.int .i64 0]) (by simp [results,Tryz.results105,go_sem]) rfl ⟨rfl,?_⟩
    repeat (refine Below.setCell ?_ (by first | (simp;done) | (simp;omega)) _)
    first | exact hw | exact (Below.refl _ _).alloc (Nat.le_refl _) _
theorem plcO_in (ps:List (Int × Int)) (k:Nat) (h:k<ps.length):plcO ps k=ps.getD k dp:=by unfold plcO;rw [if_pos (by omega),Int.toNat_natCast]
def gtP (ps:List (Int × Int)) (x:Int):Int × Int:=if mapB ps then plcO ps x else dp
def gtB (ps:List (Int × Int)) (x:Int):Bool:=mapB ps && !nwh (plcO ps x)
theorem okT_get (ps:List (Int × Int)) (n i:Nat) (h:okT ps n=true) (hi:i<n):nwh (ps.getD i dp)=true∨rgt (ps.getD i dp)=true:=by
  have h1:=okT_le ps n (i+1) h (by omega)
  simp only [okT,Bool.and_eq_true,stpP,Bool.or_eq_true] at h1
  rcases h1.2 with h2 | h2
  · exact .inl h2
  · exact .inr h2.1
theorem gt_pos (ps:List (Int × Int)) (i:Nat) (h:mapB ps=true) (hi:i<ps.length):(!nwh (ps.getD i dp))=decide (0<(ps.getD i dp).1):=by
  rcases okT_get ps _ i (mapB_okT ps h) hi with h1 | h1
  · have h2:=h1
    unfold nwh at h2
    simp only [Bool.and_eq_true,beq_iff_eq] at h2
    rw [h1,h2.1]
    rfl
  · have h2:=h1
    unfold rgt at h2
    simp only [decide_eq_true_eq] at h2
    have h3:nwh (ps.getD i dp)=false:=by
      unfold nwh
      simp only [Bool.and_eq_false_iff,beq_eq_false_iff_ne]
      omega
    rw [h3,decide_eq_true (by omega)]
    rfl
end Go.Proofs.YtbapdnhmodklbaaGreatDoor
