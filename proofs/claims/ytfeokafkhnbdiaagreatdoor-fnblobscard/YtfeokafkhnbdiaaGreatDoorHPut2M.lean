/- Lemmas on the way. -/
import Derived.Test.YtfeokafkhnbdiaaGreatDoorPut4
import Derived.Test.YtfeokafkhnbdiaaGreatDoorPcB
import Derived.Test.YtfeokafkhnbdiaaGreatDoorPut1
set_option maxRecDepth 20000
set_option maxHeartbeats 16000000
namespace Go.Proofs.YtfeokafkhnbdiaaGreatDoor
open Go.RowKit
set_option linter.unusedVariables false
theorem OwnV.blk {w:World} {B:Nat} {v:Value} {zs:List Int} (h:OwnV w B v zs) {k:Nat} (hk:v.ownBlock=some k):B≤k:=by
 rcases h.1.2 with ⟨rfl,h0⟩ | ⟨g,cap,cur,rfl,hg,_⟩
 ·simp [Value.ownBlock] at hk
 ·simp [Value.ownBlock] at hk
  omega
def WI (w:World) (B R n V:Nat):Prop:=∃ v,w.heap[R]?=some (.cells #[v,.int .i64 n,.int .i64 4096] 73 (0,0))∧OwnV w B v (enc n V)∧V<2 ^ n∧B≤R∧B≤w.heap.size
def SI (w:World) (B R n V:Nat):Prop:=∃ v,w.heap[R]?=some (.cells #[v,.int .i64 n] 40 (0,0))∧OwnV w B v (enc n V)∧V<2 ^ n∧B≤R∧B≤w.heap.size
theorem WI.drewN {w:World} {B R n V:Nat} (h:WI w B R n V) (m:Nat):WI (w.drewN m) B R n V:=h
theorem enc_zero :enc 0 0=[]:=by
 have:=enc_len 0 0
 exact List.eq_nil_of_length_eq_zero (by simpa using this)
theorem WI.new {w:World} {B R g:Nat} (hR:w.heap[R]?=some (.cells #[.slice (some ⟨g,0,none⟩) ([]:List Int).length ([]:List Int).length,.int .i64 0,.int .i64 4096] 73 (0,0))) (ho:Own w B g ([]:List Int).length []) (hBR:B≤R) (hB:B≤w.heap.size):WI w B R 0 0:=by
 refine ⟨_,by simpa using hR,?_,by simp,hBR,hB⟩
 rw [enc_zero]
 exact ho.v
theorem put_at (V0 V x n0 N:Nat):V0+V*2 ^ n0+x*2 ^ (n0+N)=V0+(V+x*2 ^ N)*2 ^ n0:=by
 rw [Nat.add_mul,Nat.add_assoc,Nat.mul_assoc,←Nat.pow_add,Nat.add_comm N n0]
theorem OwnV.neP {w:World} {B k R:Nat} {v:Value} {zs:List Int} {cur:Array Value} {T:TypeId} (h:OwnV w B v zs) (hk:v.ownBlock=some k) (hR:w.heap[R]?=some (.cells cur T (0,0))) (hT:T≠5):k≠R:=by
 rcases h.1.2 with ⟨rfl,h2⟩ | ⟨g,cap,cur',rfl,hg,hh,r⟩
 ·simp [Value.ownBlock] at hk
 ·simp [Value.ownBlock] at hk
  subst hk
  rintro rfl
  rw [hR] at hh
  simp at hh
  exact hT hh.2
theorem OwnV.stayP {w w':World} {B:Nat} {v:Value} {zs:List Int} (h:OwnV w B v zs) (hb:Below w.heap.size w w'):OwnV w' B v zs:=by
 rcases h.1.2 with ⟨h1,h2⟩ | ⟨g,cap,cur,rfl,hg,hh,r⟩
 ·exact ⟨⟨h.1.1,.inl ⟨h1,h2⟩⟩,h.2⟩
 ·exact ⟨⟨h.1.1,.inr ⟨g,cap,cur,rfl,hg,(hb.block g (Array.getElem?_eq_some_iff.1 hh).1).trans hh,r⟩⟩,h.2⟩
theorem WI.stay {w w':World} {B R n V:Nat} (h:WI w B R n V) (hb:Below w.heap.size w w'):WI w' B R n V:=by
 obtain ⟨v,h1,h2,h3,h4,h5⟩:=h
 exact ⟨v,(hb.block R (Array.getElem?_eq_some_iff.1 h1).1).trans h1,h2.stayP hb,h3,h4,Nat.le_trans h5 hb.size⟩
theorem WI.putG {w:World} {B R n V:Nat} (h:WI w B R n V) {g:Nat} {cur:Array Value} {T:TypeId} (hg:w.heap[g]?=some (.cells cur T (0,0))) (hT:T≠5) (hgR:g≠R) (x width:Nat) (h2:width≤30) (hxw:x<2 ^ width) (h3:n+width≤4096) :
  Calls Tryz.prog 79 #[.pointer (some ⟨R,0,none⟩),.int .i64 (x:Int),.int .i64 (width:Int)] w fun e w'=>e=.returned .nilIface∧WI w' B R (n+width) (V+x*2 ^ n)∧Below B w w'∧w'.heap[g]?=some (.cells cur T (0,0)):=by
 obtain ⟨v,hR,hv,hV,hBR,hB⟩:=h
 have hxi:(x:Int)<2 ^ ((width:Int)).toNat:=by
  have e:((2:Int) ^ width)=((2 ^ width:Nat):Int):=by simp
  rw [Int.toNat_natCast,e]
  exact Int.ofNat_lt.2 hxw
 refine (wput_yes R B v n V x width 4096 w hR hv hV hB (by omega) (by omega) (by omega) hxi (by omega) (by omega) (by omega)).mono ?_
 rintro e w' ⟨rfl,v',hR',hv',ho,_⟩
 have hb:Below B w w':=ho.below hB (fun k hk=>by
  rcases hk with hk | hk
  ·omega
  ·exact hv.blk hk)
 simp only [Int.toNat_natCast] at hR' hv'
 refine ⟨rfl,⟨v',hR',hv',put_lt n V width x hV hxw,hBR,Nat.le_trans hB hb.size⟩,hb,?_⟩
 refine (ho.block g (Array.getElem?_eq_some_iff.1 hg).1 ?_).trans hg
 rintro (hk | hk)
 ·exact hgR hk
 ·exact hv.neP hk hg hT rfl
theorem OwI.blockG {w w':World} {B g cap:Nat} {zs:List Int} (h:OwI w B g cap zs):∃ cur,w.heap[g]?=some (.cells cur 3 (0,0))∧(w'.heap[g]?=some (.cells cur 3 (0,0))→OwI w' B g cap zs):=by
 rcases h.1.2 with ⟨h',_⟩ | ⟨g',cap',cur,h',hg,hh,r⟩
 ·simp at h'
 ·have e:g'=g:=by simp at h';exact h'.1.symm
  subst e
  exact ⟨cur,hh,fun hk=>⟨⟨h.1.1,.inr ⟨g',cap',cur,h',hg,hk,r⟩⟩,h.2⟩⟩
def OVI (w:World) (B:Nat) (v:Value) (zs:List Int):Prop:=w.ownsRow B 3 1 v zs.length (zs.map (Value.int .i64))∧∀ z ∈ zs,-9223372036854775808≤z∧z≤9223372036854775807
theorem OVI.nil (w:World) (B:Nat):OVI w B (.slice none 0 0) []:=⟨⟨rfl,.inl ⟨rfl,rfl⟩⟩,by simp⟩
theorem OVI.form {w:World} {B:Nat} {v:Value} {zs:List Int} (h:OVI w B v zs):∃ (a:Option Addr) (c:Nat),v=.slice a zs.length c:=by
 rcases h.1.2 with ⟨rfl,h0⟩ | ⟨g,cap,cur,rfl,_⟩
 ·exact ⟨none,0,by rw [h0]⟩
 ·exact ⟨_,_,rfl⟩
theorem OVI.blk {w:World} {B:Nat} {v:Value} {zs:List Int} (h:OVI w B v zs) {k:Nat} (hk:v.ownBlock=some k):B≤k:=by
 rcases h.1.2 with ⟨rfl,h0⟩ | ⟨g,cap,cur,rfl,hg,_⟩
 ·simp [Value.ownBlock] at hk
 ·simp [Value.ownBlock] at hk
  omega
theorem OVI.mine {w:World} {B:Nat} {v:Value} {zs:List Int} (h:OVI w B v zs):∃ (a:Option Addr) (cp:Nat),v=.slice a zs.length cp∧MinI w B w.heap.size a cp zs:=by
 rcases h.1.2 with ⟨rfl,h0⟩ | ⟨g,cap,cur,rfl,hg,hh,r⟩
 ·exact ⟨none,0,by rw [h0],.inl ⟨rfl,List.eq_nil_of_length_eq_zero h0,rfl⟩⟩
 ·exact ⟨some ⟨g,0,none⟩,cap,rfl,OwI.mine (cap:=cap) h⟩
theorem OVI.app {w1:World} {B g cap n:Nat} {zs:List Int} {x:Int} (hl:zs.length=n) (hr:∀ z ∈ zs,-9223372036854775808≤z∧z≤9223372036854775807) (hx:-9223372036854775808≤x∧x≤9223372036854775807)
  (hown:w1.ownsRow B 3 1 (.slice (some ⟨g,0,none⟩) (n+1) cap) (n+1) (zs.map (Value.int .i64)++[.int .i64 x])):OVI w1 B (.slice (some ⟨g,0,none⟩) (n+1) cap) (zs++[x]):=by
 refine ⟨?_,?_⟩
 ·have e:(zs++[x]).length=n+1:=by simp [hl]
  rw [e]
  simpa using hown
 ·intro z hz
  simp only [List.mem_append,List.mem_singleton] at hz
  rcases hz with hz | rfl
  ·exact hr z hz
  ·exact hx
theorem app_below {w0 wr w1:World} {B:Nat} {o:Obj} {v:Value} {zs:List Int} (hbel:Below B w0 wr) (hB:B≤wr.heap.size) (h:OVI wr B v zs) (hg:(wr.alloc o).grownBy w1 v.ownBlock):Below B w0 w1:=
 (hbel.alloc hB o).grown hg (by simp;omega) (fun k hk=>h.blk hk)
theorem OVI.only {S:Nat→Prop} {w w':World} {B:Nat} {v:Value} {zs:List Int} (h:OVI w B v zs) (ho:Only S w w') (hs:∀ k,B≤k→¬S k):OVI w' B v zs:=by
 refine ⟨⟨h.1.1,?_⟩,h.2⟩
 rcases h.1.2 with h' | ⟨g,cap,cur,h',hg,hh,r⟩
 ·exact .inl h'
 ·exact .inr ⟨g,cap,cur,h',hg,(ho.block g (Array.getElem?_eq_some_iff.1 hh).1 (hs g hg)).trans hh,r⟩
def atL (zs:List Int) (L i:Nat):List Int:=((List.range i).filter (fun s=>decide (zs.getD s 0=(L:Int)))).map (fun s=>((s:Nat):Int))
def sbL (zs:List Int):Nat→List Int
 | 0=>[]
 | l+1=>sbL zs l++atL zs (l+1) zs.length
theorem atL_zero (zs:List Int) (L:Nat):atL zs L 0=[]:=by simp [atL]
theorem atL_yes (zs:List Int) (L i:Nat) (h:zs.getD i 0=(L:Int)):atL zs L (i+1)=atL zs L i++[(i:Int)]:=by
 unfold atL
 rw [List.range_succ,List.filter_append,List.map_append]
 congr 1
 rw [List.filter_cons_of_pos (by simpa using h)]
 simp
theorem atL_no (zs:List Int) (L i:Nat) (h:¬zs.getD i 0=(L:Int)):atL zs L (i+1)=atL zs L i:=by
 unfold atL
 rw [List.range_succ,List.filter_append,List.map_append]
 rw [List.filter_cons_of_neg (by simpa using h)]
 simp
theorem atL_len (zs:List Int) (L i:Nat):(atL zs L i).length≤i:=by
 unfold atL
 rw [List.length_map]
 have:=List.length_filter_le (fun s=>decide (zs.getD s 0=(L:Int))) (List.range i)
 simpa using this
theorem sbL_len (zs:List Int) (l:Nat):(sbL zs l).length≤l*zs.length:=by
 induction l with
 | zero=>simp [sbL]
 | succ l ih=>
  have:=atL_len zs (l+1) zs.length
  simp only [sbL,List.length_append,Nat.add_mul]
  omega
theorem atL_mem (zs:List Int) (L i:Nat):∀ z ∈ atL zs L i,∃ s:Nat,z=s∧s<i∧zs.getD s 0=(L:Int):=by
 intro z hz
 simp only [atL,List.mem_map,List.mem_filter,List.mem_range,decide_eq_true_eq] at hz
 obtain ⟨s,⟨h1,h2⟩,rfl⟩:=hz
 exact ⟨s,rfl,h1,h2⟩
theorem sbL_mem (zs:List Int) (l:Nat):∀ z ∈ sbL zs l,∃ s:Nat,z=s∧s<zs.length∧1≤zs.getD s 0∧zs.getD s 0≤(l:Int):=by
 induction l with
 | zero=>simp [sbL]
 | succ l ih=>
  intro z hz
  simp only [sbL,List.mem_append] at hz
  rcases hz with hz | hz
  ·obtain ⟨s,h1,h2,h3,h4⟩:=ih z hz
   exact ⟨s,h1,h2,h3,by omega⟩
  ·obtain ⟨s,h1,h2,h3⟩:=atL_mem _ _ _ z hz
   exact ⟨s,h1,h2,by omega,by omega⟩
theorem syms_any (a:Option Addr) (cap:Nat) (zs:List Int) (w:World) (hb:Ins w a zs) (hn:zs.length≤80) :
  Calls Tryz.prog 146 #[.slice a zs.length cap] w fun e w'=>
   ∃ a' cp,e=.returned (.slice a' (sbL zs 12).length cp)∧MinI w' w.heap.size w'.heap.size a' cp (sbL zs 12)∧Below w.heap.size w w':=by
 obtain ⟨i0,hi,hz0,hz1,hz2⟩:=info_parts Tryz.infoI64
 have HSB:Hid (∀ l,sbL zs (l+1)=sbL zs l++atL zs (l+1) zs.length):=fun _=>rfl
 have HSL:Hid _:=sbL_len zs
 have HAY:Hid _:=atL_yes zs
 have HAN:Hid _:=atL_no zs
 have HAZ:Hid _:=atL_zero zs
 have HAL:Hid _:=atL_len zs
 generalize hlen:zs.length=n at *
 have HL:Hid (zs.length=n):=hlen
 clear hlen
 go_enter Tryz.func146,Tryz.ntmps146
 go_wp2
 go_loopw [3,4] (fun o l wr=>∃ (M:Nat) (y:Int),y=M∧1≤M∧M≤13∧l=.int .i64 y∧OVI wr w.heap.size o (sbL zs (M-1))∧Below w.heap.size w wr) (fun _ l _=>13-(intOf l).toNat)
 case atStart=>exact ⟨1,1,rfl,by omega,by omega,rfl,OVI.nil _ _,Below.refl _ _⟩
 case round=>
  obtain ⟨M,y,hy,hM1,hM,rfl,hov,hbel⟩:=hrel
  obtain ⟨ao,co,rfl⟩:=hov.form
  have hsl:=HSL.out (M-1)
  have hlb:(M-1)*n≤12*80:=Nat.mul_le_mul (by omega) hn
  have hm:(sbL zs (M-1)).length≤960:=by omega
  have HOV:Hid (OVI wr w.heap.size (.slice ao (sbL zs (M-1)).length co) (sbL zs (M-1))):=hov
  clear hov hsl hlb
  have HMY:Hid (y=(M:Int)):=hy
  have HM1:Hid (1≤M∧M≤13):=⟨hM1,hM⟩
  have hy1:1≤y∧y≤13:=by omega
  clear hy hM1 hM
  by_cases hL12:y≤12
  ·have HB0:Hid (Below w.heap.size w wr):=hbel
   have HMS:Hid (sbL zs (M+1-1)=sbL zs (M-1)++atL zs M n):=by
    obtain ⟨l,rfl⟩:∃ l,M=l+1:=⟨M-1,by have:=HM1.out;omega⟩
    exact HSB.out l
   clear hbel
   generalize sbL zs (M-1)=q0 at *
   generalize hm0:q0.length=m0 at *
   have HM0:Hid (q0.length=m0):=hm0
   clear hm0
   go_wp2
   go_loopw [3,13] (fun o i wi=>∃ k:Nat,k≤n∧i=.int .i64 k∧OVI wi w.heap.size o (q0++atL zs M k)∧Below w.heap.size w wi) (fun _ i _=>n-(intOf i).toNat)
   case atStart=>exact ⟨0,Nat.zero_le _,rfl,by rw [HAZ.out,List.append_nil];exact HOV.out,HB0.out⟩
   case round=>
    clear HOV HB0
    obtain ⟨k,hk,rfl,hov,hbel⟩:=hrel
    by_cases hlt:k<n
    ·obtain ⟨b1,o1,rfl,hb1,hc1⟩:=(hb.below hbel nl).len_pos k (by rw [HL.out];exact hlt)
     have hs1:=hc1 k (by rw [HL.out];exact hlt)
     have g1:=getD_rngI hb.1 k
     have hal:=HAL.out M k
     have HY:=HAY.out M k
     have HN:=HAN.out M k
     obtain ⟨au,cu,rfl⟩:=hov.form
     have hsz:=hbel.size
     clear hc1
     generalize zs.getD k 0=x at *
     have hlen2:(q0++atL zs M k).length≤2000:=by rw [List.length_append,HM0.out];omega
     clear hal
     generalize hq:q0++atL zs M k=q at *
     by_cases hx:x=y
     ·have HE:Hid (q++[(k:Int)]=q0++atL zs M (k+1)):=by unfold Hid;rw [HY (hx.trans HMY.out),←List.append_assoc,hq]
      have HQR:Hid (∀ z ∈ q,-9223372036854775808≤z∧z≤9223372036854775807):=hov.2
      have hu:=hov.1
      have HOV:Hid (OVI wr w.heap.size (.slice au q.length cu) q):=hov
      clear HY HN hq hov
      subst hx
      generalize hql:q.length=m at *
      have HQL:Hid (q.length=m):=hql
      clear hql
      go_wp2_with (at_builtin;(refine wpList_append_lies _ rfl (.tmp 21) (.tmp 23) 38 rfl w.heap.size 3 i0 (.int .i64 0) 1 8 Tryz.underlying38 hi hz0 hz1 hz2 rfl (by decide) (.slice au m cu) m (q.map (Value.int .i64)) rfl (hu.alloc _) ⟨wr.heap.size,0,none⟩ 1 1 [.int .i64 (k:Nat)] rfl rfl (by intro j y hj;match j,hj with | 0,hj=>(simp at hj;subst hj;simp [Addr.add])) (by intro y hy;simp at hy;subst hy;rfl) (by omega) (by unfold maxLen;omega) (by omega) (by simp;omega) _ rfl ?_);intro g cap1 w1 hown hgrow hat hlt1)
      have HOV2:Hid (OVI w1 w.heap.size (.slice (some ⟨g,0,none⟩) (m+1) cap1) (q++[(k:Int)])):=OVI.app HQL.out HQR.out (by omega) hown
      have HB2:Hid (Below w.heap.size w w1):=app_below hbel hsz HOV.out hgrow
      clear hown hgrow hat hlt1 HOV hu hbel
      go_roundw
      case rel=>exact ⟨k+1,by omega,by go_num,by rw [←HE.out];exact HOV2.out,HB2.out⟩
      case measure=>simp [intOf];omega
     ·have HE:Hid (q=q0++atL zs M (k+1)):=by unfold Hid;rw [HN (fun h=>hx (h.trans HMY.out.symm)),hq]
      have hxx:(x == y)=false:=by simpa using hx
      have HOV:Hid _:=hov
      clear HY HN hq hov hx
      go_wp2
      go_roundw
      case rel=>exact ⟨k+1,by omega,by go_num,by rw [←HE.out];exact HOV.out,hbel⟩
      case measure=>simp [intOf];omega
    ·have hkn:k=n:=by omega
     subst hkn
     obtain ⟨au,cu,rfl⟩:=hov.form
     have HOV:Hid _:=hov
     clear hov
     go_wp2
     go_roundw
     case rel=>exact ⟨M+1,y+1,by have:=HMY.out;omega,by omega,by have:=HMY.out;omega,by go_num,by rw [HMS.out];exact HOV.out,hbel⟩
     case measure=>simp [intOf];omega
  ·have hLe:M=13:=by have:=HMY.out;have:=HM1.out;omega
   subst hLe
   have HOV2:Hid (OVI wr w.heap.size (.slice ao (sbL zs (13-1)).length co) (sbL zs 12)):=HOV.out
   clear HOV
   go_wp2
   go_ret
   obtain ⟨a',cp,he,hmm⟩:=HOV2.out.mine
   exact ⟨a',cp,congrArg Ending.returned he,hmm,hbel⟩
def zN (zs:List Int) (s:Int):Nat:=(zs.getD s.toNat 0).toNat
def cst (zs:List Int) (st:Nat × Nat × List Int) (s:Int):Nat × Nat × List Int:=
 (st.1*2 ^ (zN zs s-st.2.1)+1,zN zs s,st.2.2.set s.toNat ((st.1*2 ^ (zN zs s-st.2.1):Nat):Int))
def crun (zs l:List Int):Nat × Nat × List Int:=l.foldl (cst zs) (0,0,List.replicate zs.length 0)
theorem crun_nil (zs:List Int):crun zs []=(0,0,List.replicate zs.length 0):=rfl
theorem crun_snoc (zs l:List Int) (s:Int):crun zs (l++[s])=cst zs (crun zs l) s:=by simp [crun,List.foldl_append]
theorem crun_len (zs l:List Int):(crun zs l).2.2.length=zs.length:=by
 have:∀ (l:List Int) (st:Nat × Nat × List Int),(l.foldl (cst zs) st).2.2.length=st.2.2.length:=by
  intro l
  induction l with
  | nil=>intro st;rfl
  | cons s l ih=>intro st;rw [List.foldl_cons,ih];simp [cst]
 unfold crun
 rw [this]
 simp
def asc (zs l:List Int):Prop:=l.Pairwise (fun a b=>zN zs a≤zN zs b)
theorem asc_same (zs:List Int) (m:Nat) (l:List Int) (h:∀ a ∈ l,zN zs a=m):asc zs l:=by
 unfold asc
 induction l with
 | nil=>exact List.Pairwise.nil
 | cons a l ih=>
  refine List.Pairwise.cons (fun b hb=>?_) (ih (fun x hx=>h x (by simp [hx])))
  rw [h a (by simp),h b (by simp [hb])]
  exact Nat.le_refl _
theorem zN_at (zs:List Int) (L i:Nat):∀ a ∈ atL zs L i,zN zs a=L:=by
 intro a ha
 obtain ⟨s,rfl,_,h⟩:=atL_mem zs L i a ha
 unfold zN
 rw [Int.toNat_natCast,h]
 simp
theorem zN_sb (zs:List Int) (l:Nat):∀ a ∈ sbL zs l,zN zs a≤l:=by
 intro a ha
 obtain ⟨s,rfl,_,h1,h2⟩:=sbL_mem zs l a ha
 unfold zN
 rw [Int.toNat_natCast]
 omega
theorem asc_sb (zs:List Int) (l:Nat):asc zs (sbL zs l):=by
 induction l with
 | zero=>exact List.Pairwise.nil
 | succ l ih=>
  simp only [sbL]
  refine List.pairwise_append.2 ⟨ih,asc_same zs (l+1) _ (zN_at zs (l+1) _),fun a ha b hb=>?_⟩
  rw [zN_at zs (l+1) _ b hb]
  have:=zN_sb zs l a ha
  omega
theorem take_snoc (l:List Int) (t:Nat) (h:t<l.length):l.take (t+1)=l.take t++[l.getD t 0]:=by
 rw [List.take_succ_eq_append_getElem h]
 simp [List.getD_eq_getElem?_getD,List.getElem?_eq_getElem h]
theorem cr_step (nx ln z t:Nat) (hl:ln≤z) (h:nx≤t*2 ^ ln):nx*2 ^ (z-ln)≤t*2 ^ z∧nx*2 ^ (z-ln)+1≤(t+1)*2 ^ z:=by
 have h1:nx*2 ^ (z-ln)≤t*2 ^ ln*2 ^ (z-ln):=Nat.mul_le_mul_right _ h
 rw [Nat.mul_assoc,←Nat.pow_add,show ln+(z-ln)=z from by omega] at h1
 have h2:0<2 ^ z:=Nat.pow_pos (by omega)
 rw [Nat.add_mul]
 omega
theorem cr_bound (zs l:List Int) (h:asc zs l) (t:Nat) (ht:t≤l.length):(crun zs (l.take t)).1≤t*2 ^ (crun zs (l.take t)).2.1∧(t<l.length→(crun zs (l.take t)).2.1≤zN zs (l.getD t 0)):=by
 induction t with
 | zero=>simp [crun_nil]
 | succ t ih=>
  obtain ⟨i1,i2⟩:=ih (by omega)
  rw [take_snoc l t (by omega),crun_snoc]
  simp only [cst]
  refine ⟨(cr_step _ _ _ t (i2 (by omega)) i1).2,fun ht2=>?_⟩
  have hp:=List.pairwise_iff_getElem.1 h t (t+1) (by omega) ht2 (by omega)
  simpa [List.getD_eq_getElem?_getD,List.getElem?_eq_getElem (show t<l.length by omega),List.getElem?_eq_getElem ht2] using hp
theorem cr_ln (zs l:List Int) (m:Nat) (h:∀ a ∈ l,zN zs a≤m):(crun zs l).2.1≤m:=by
 by_cases h0:l=[]
 ·subst h0;simp [crun_nil]
 ·have hl:0<l.length:=List.length_pos_iff.2 h0
  have e:l=l.take (l.length-1)++[l.getD (l.length-1) 0]:=by
   rw [←take_snoc l (l.length-1) (by omega),show l.length-1+1=l.length from by omega,List.take_length]
  rw [e,crun_snoc]
  simp only [cst]
  exact h _ (getD_mem (by omega))
theorem below_dH {B:Nat} {a b:World} (h:Below B a b) (n:Nat):Below B a (b.drewN n):=⟨h.os,h.tape,h.output,h.size,h.block⟩
theorem turned (c L:Nat) (h:L≤12):rvp (c % 65536) 16 16 / 2 ^ (16-L)=rvp c L L:=by
 rw [rvp_shift _ L (by omega),show 65536=2 ^ 16 from rfl,rvp_mod c L 16 (by omega)]
def hN (ls ts:List Int):Nat→Nat
 | 0=>0
 | k+1=>hN ls ts k+zN ls (ts.getD k 0)
def hV (ls cs ts:List Int):Nat→Nat
 | 0=>0
 | k+1=>hV ls cs ts k+rvp (cs.getD (ts.getD k 0).toNat 0).toNat (zN ls (ts.getD k 0)) (zN ls (ts.getD k 0))*2 ^ hN ls ts k
theorem hN_le {ls ts:List Int} (h:∀ z ∈ ls,0≤z∧z≤12) (k:Nat):hN ls ts k≤12*k:=by
 induction k with
 | zero=>simp [hN]
 | succ k ih=>
  have h1:zN ls (ts.getD k 0)≤12:=by
   unfold zN
   by_cases hi:(ts.getD k 0).toNat<ls.length
   ·have:=h _ (getD_mem hi);omega
   ·rw [List.getD_eq_getElem?_getD,List.getElem?_eq_none (by omega)];simp
  simp only [hN]
  omega
def cv (zs l:List Int) (L:Nat):Nat:=(crun zs l).1*2 ^ (L-(crun zs l).2.1)
theorem cv_double (zs l:List Int) (L:Nat) (h:(crun zs l).2.1≤L):cv zs l (L+1)=cv zs l L*2:=by
 unfold cv
 rw [show L+1-(crun zs l).2.1=(L-(crun zs l).2.1)+1 from by omega,Nat.pow_succ,Nat.mul_assoc]
theorem cv_snoc (zs l:List Int) (s:Int) (L:Nat) (h:zN zs s=L):cv zs (l++[s]) L=cv zs l L+1∧(crun zs (l++[s])).2.2=(crun zs l).2.2.set s.toNat (cv zs l L:Nat):=by
 unfold cv
 rw [crun_snoc]
 simp only [cst,h]
 simp
theorem cv_nil (zs:List Int):cv zs [] 0=0:=by simp [cv,crun_nil]
structure At (zs:List Int) (M k c:Nat) (out:List Int):Prop where
 c:cv zs (sbL zs (M-1)++atL zs M k) M=c
 out:(crun zs (sbL zs (M-1)++atL zs M k)).2.2=out
def SJ (w:World) (X U n V:Nat):Prop:=∃ v,w.heap[X]?=some (.cells #[v,.int .i64 n] 40 (0,0))∧OwnV w U v (enc n V)∧V<2 ^ n∧U≤w.heap.size
theorem crun_rng2 (ls:List Int) (hl:ls.length≤80):∀ z ∈ (crun ls (sbL ls 12)).2.2,0≤z∧z≤8192000:=by
 have hsl:(sbL ls 12).length≤2000:=by have:=sbL_len ls 12;omega
 have key:∀ t,t≤(sbL ls 12).length→∀ z ∈ (crun ls ((sbL ls 12).take t)).2.2,0≤z∧z≤8192000:=by
  intro t
  induction t with
  | zero=>intro _ z hz;simp [crun_nil] at hz;omega
  | succ t ih=>
   intro ht z hz
   rw [take_snoc _ t (by omega),crun_snoc] at hz
   simp only [cst] at hz
   rcases List.mem_or_eq_of_mem_set hz with hz | rfl
   ·exact ih (by omega) z hz
   ·obtain ⟨b1,b2⟩:=cr_bound ls (sbL ls 12) (asc_sb ls 12) t (by omega)
    have b3:=(cr_step _ _ _ t (b2 (by omega)) b1).1
    have b4:=zN_sb ls 12 _ (getD_mem (zs:=sbL ls 12) (k:=t) (by omega))
    have b5:2 ^ zN ls ((sbL ls 12).getD t 0)≤2 ^ 12:=Nat.pow_le_pow_right (by omega) b4
    have b6:t*2 ^ zN ls ((sbL ls 12).getD t 0)≤2000*2 ^ 12:=Nat.mul_le_mul (by omega) b5
    omega
 intro z hz
 exact key _ nl z (by rw [List.take_length];exact hz)
end Go.Proofs.YtfeokafkhnbdiaaGreatDoor
