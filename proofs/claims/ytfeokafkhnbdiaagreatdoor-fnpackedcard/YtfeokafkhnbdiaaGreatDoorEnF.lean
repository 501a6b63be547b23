/- Lemmas on the way. -/
import Derived.Test.YtfeokafkhnbdiaaGreatDoorPcB
import Derived.Test.YtfeokafkhnbdiaaGreatDoorTb4
import Derived.Test.YtfeokafkhnbdiaaGreatDoorFnD
namespace Go.Proofs.YtfeokafkhnbdiaaGreatDoor
open Go.RowKit
set_option linter.unusedVariables false
structure Sq where
 a:Option Addr
 c:Nat
 ls:List Int
 n:Int
 d:Int
def Sq.ct (s:Sq):List Int × Int × Int:=(s.ls,s.n,s.d)
def dq :Sq:=⟨none,0,[],0,0⟩
def rI (z:Int):Prop:=-9223372036854775808≤z∧z≤9223372036854775807
def Sq.cells (s:Sq):List Value:=[.slice s.a s.ls.length s.c,.int .i64 s.n,.int .i64 s.d]
structure Lies (w:World) (b o:Nat) (s:Sq):Prop where
 c0:w.cell? ⟨b,o,none⟩=some (.slice s.a s.ls.length s.c)
 c1:w.cell? ⟨b,o+1,none⟩=some (.int .i64 s.n)
 c2:w.cell? ⟨b,o+2,none⟩=some (.int .i64 s.d)
 byt:Byt w s.a s.ls
def Sqs (w:World) (a:Option Addr) (ss:List Sq):Prop:=
 (∀ s ∈ ss,rI s.n∧rI s.d∧s.ls.length≤maxLen)∧(0<ss.length→∃ b off,a=some ⟨b,off,none⟩∧b<w.heap.size∧∀ i,i<ss.length→Lies w b (off+i*3) (ss.getD i dq))
theorem Lies.below {w w':World} {b o:Nat} {s:Sq} {B:Nat} (h:Lies w b o s) (hb:Below B w w') (hB:w.heap.size≤B) (hlt:b<w.heap.size):Lies w' b o s:=
 ⟨keep hb (by omega) h.c0,keep hb (by omega) h.c1,keep hb (by omega) h.c2,h.byt.below hb hB⟩
theorem Sqs.below {w w':World} {a:Option Addr} {ss:List Sq} {B:Nat} (h:Sqs w a ss) (hb:Below B w w') (hB:w.heap.size≤B):Sqs w' a ss:=by
 refine ⟨h.1,fun hz=>?_⟩
 obtain ⟨b,off,rfl,hlt,hc⟩:=h.2 hz
 exact ⟨b,off,rfl,Nat.lt_of_lt_of_le hlt hb.size,fun i hi=>(hc i hi).below hb hB hlt⟩
theorem Sqs.len_pos {w:World} {a:Option Addr} {ss:List Sq} (h:Sqs w a ss) (i:Nat) (hi:i<ss.length):∃ b off,a=some ⟨b,off,none⟩∧b<w.heap.size∧∀ i,i<ss.length→Lies w b (off+i*3) (ss.getD i dq):=h.2 (by omega)
theorem getD_memS {ss:List Sq} {k:Nat} (hk:k<ss.length):ss.getD k dq ∈ ss:=by
 rw [List.getD_eq_getElem?_getD,List.getElem?_eq_getElem hk];exact List.getElem_mem hk
theorem Sqs.rng {w:World} {a:Option Addr} {ss:List Sq} (h:Sqs w a ss) (k:Nat) (hk:k<ss.length):rI (ss.getD k dq).n∧rI (ss.getD k dq).d∧(ss.getD k dq).ls.length≤maxLen:=h.1 _ (getD_memS hk)
theorem flat_get (ss:List Sq):∀ k,k<ss.length→(ss.flatMap Sq.cells)[k*3]?=some (.slice (ss.getD k dq).a (ss.getD k dq).ls.length (ss.getD k dq).c)∧(ss.flatMap Sq.cells)[k*3+1]?=some (.int .i64 (ss.getD k dq).n)∧(ss.flatMap Sq.cells)[k*3+2]?=some (.int .i64 (ss.getD k dq).d):=by
 induction ss with
 | nil=>intro k hk;simp at hk
 | cons s ss ih=>
  intro k hk
  cases k with
  | zero=>simp [List.flatMap_cons,Sq.cells]
  | succ k=>
   have:=ih k (by simpa using hk)
   rw [List.flatMap_cons,show (k+1)*3=k*3+3 from by omega]
   simpa [Sq.cells] using this
structure OwS (w:World) (B g cap:Nat) (ss:List Sq):Prop where
 row:w.ownsRow B 37 3 (.slice (some ⟨g,0,none⟩) ss.length cap) ss.length (ss.flatMap Sq.cells)
 rng:∀ s ∈ ss,rI s.n∧rI s.d∧s.ls.length≤maxLen
 mine:∀ s ∈ ss,Mine w B w.heap.size s.a s.c s.ls
 apart:∀ i j,i<ss.length→j<ss.length→i≠j→∀ k,rowOf (ss.getD i dq).a k→¬rowOf (ss.getD j dq).a k
section
variable {w w' : World} {B g cap : Nat} {ss : List Sq}
theorem rowStay {T:TypeId} {sz:Nat} {v:Value} {n:Nat} {xs:List Value} {S:Nat→Prop} (h:w.ownsRow B T sz v n xs) (ho:Only S w w') (hs:∀ k,v.ownBlock=some k→¬S k):w'.ownsRow B T sz v n xs:=by
 refine ⟨h.1,?_⟩
 rcases h.2 with h' | ⟨g,cap,cur,rfl,hg,hh,r⟩
 ·exact .inl h'
 ·exact .inr ⟨g,cap,cur,rfl,hg,(ho.block g (Array.getElem?_eq_some_iff.1 hh).1 (hs g rfl)).trans hh,r⟩
theorem Mine.rowB {a:Option Addr} {U c k:Nat} {zs:List Int} (h:Mine w B U a c zs) (hr:rowOf a k):B≤k∧k<U:=by
 obtain ⟨x,hx,rfl⟩:=hr
 rcases h with ⟨h',_⟩ | ⟨g,h',g1,g2,_⟩
 ·rw [h'] at hx;cases hx
 ·rw [h'] at hx
  simp at hx
  rw [←hx]
  exact ⟨g1,g2⟩
end
def stp (last:Bool) (m:Nat) (s:Sq):Option Nat:=
 if 64<m+s.ls.length then none
 else if s.n=0 then (if s.d=0∧last=true∧0<s.ls.length then some (m+s.ls.length) else none)
 else if 3≤s.n∧s.n≤64-((m+s.ls.length:Nat):Int)∧1≤s.d∧s.d≤((m+s.ls.length:Nat):Int) then some (m+s.ls.length+s.n.toNat)
 else none
def sqc (ss:List Sq):Nat→Option Nat
 | 0=>some 0
 | k+1=>(sqc ss k).bind (fun m=>stp (decide (k+1=ss.length)) m (ss.getD k dq))
def sqn (ss:List Sq):Option Nat:=if 40<ss.length then none else sqc ss ss.length
theorem stp_le {last:Bool} {m:Nat} {s:Sq} {m':Nat} (h:stp last m s=some m'):m'≤64:=by
 unfold stp at h
 split at h
 ·cases h
 ·split at h
  ·split at h
   ·simp at h;omega
   ·cases h
  ·split at h
   ·simp at h;omega
   ·cases h
theorem sqc_le {ss:List Sq} {k m:Nat} (h:sqc ss k=some m):m≤64:=by
 cases k with
 | zero=>simp [sqc] at h;omega
 | succ k=>
  simp only [sqc,Option.bind_eq_some_iff] at h
  obtain ⟨m0,_,h2⟩:=h
  exact stp_le h2
theorem sqc_none {ss:List Sq} {k:Nat} (h:sqc ss k=none):∀ j,k≤j→sqc ss j=none:=by
 intro j hj
 induction j with
 | zero => obtain rfl : k = 0 := by omega
           exact h
 | succ j ih=>
  by_cases hk:k≤j
  ·simp only [sqc,ih hk,Option.bind_none]
  ·obtain rfl:k=j+1:=by omega
   exact h
theorem sqc_step {ss:List Sq} {k m:Nat} (h:sqc ss k=some m):sqc ss (k+1)=stp (decide (k+1=ss.length)) m (ss.getD k dq):=by
 simp only [sqc,h,Option.bind_some]
theorem sqn_none {ss:List Sq} {k m:Nat} (h:sqc ss k=some m) (hk:k<ss.length) (hs:stp (decide (k+1=ss.length)) m (ss.getD k dq)=none):sqn ss=none:=by
 unfold sqn
 split
 ·rfl
 ·exact sqc_none ((sqc_step h).trans hs) _ hk
theorem sqn_some {ss:List Sq} {m:Nat} (h:sqc ss ss.length=some m) (hl:ss.length≤40):sqn ss=some m:=by
 unfold sqn
 rw [if_neg (by omega)]
 exact h
theorem sqn_len {ss:List Sq} (h:40<ss.length):sqn ss=none:=by simp [sqn,h]
theorem sqc_ct {ss ts:List Sq} (h:ss.map Sq.ct=ts.map Sq.ct) (k:Nat):sqc ss k=sqc ts k:=by
 have hl:ss.length=ts.length:=by have:=congrArg List.length h;simpa using this
 induction k with
 | zero=>rfl
 | succ k ih=>
  have hg:(ss.getD k dq).ct=(ts.getD k dq).ct:=by
   have:(ss.map Sq.ct).getD k dq.ct=(ts.map Sq.ct).getD k dq.ct:=by rw [h]
   simpa [List.getD_eq_getElem?_getD,List.getElem?_map,Option.getD_map] using this
  simp only [Sq.ct,Prod.mk.injEq] at hg
  simp only [sqc,ih,hl,stp,hg]
theorem sqn_ct {ss ts:List Sq} (h:ss.map Sq.ct=ts.map Sq.ct):sqn ss=sqn ts:=by
 have hl:ss.length=ts.length:=by have:=congrArg List.length h;simpa using this
 simp only [sqn,hl,sqc_ct h]
theorem stp_over {last:Bool} {m:Nat} {s:Sq} (h:64<m+s.ls.length):stp last m s=none:=by unfold stp;rw [if_pos h]
theorem stp_rest {last:Bool} {m:Nat} {s:Sq} (h:¬64<m+s.ls.length) (h0:s.n=0):stp last m s=if s.d=0∧last=true∧0<s.ls.length then some (m+s.ls.length) else none:=by unfold stp;rw [if_neg h,if_pos h0]
theorem stp_piece {last:Bool} {m:Nat} {s:Sq} (h:¬64<m+s.ls.length) (h0:¬s.n=0):stp last m s=if 3≤s.n∧s.n≤64-((m+s.ls.length:Nat):Int)∧1≤s.d∧s.d≤((m+s.ls.length:Nat):Int) then some (m+s.ls.length+s.n.toNat) else none:=by unfold stp;rw [if_neg h,if_neg h0]
def lets :List Sq→Nat
 | []=>0
 | s :: ss=>s.ls.length+lets ss
theorem lets_app (a b:List Sq):lets (a++b)=lets a+lets b:=by
 induction a with
 | nil=>simp [lets]
 | cons s a ih=>simp only [List.cons_append,lets,ih];omega
theorem lets_take_succ (ss:List Sq) (k:Nat) (h:k<ss.length):lets (ss.take (k+1))=lets (ss.take k)+(ss.getD k dq).ls.length:=by
 rw [List.take_succ_eq_append_getElem h,lets_app]
 simp [lets,List.getD_eq_getElem?_getD,List.getElem?_eq_getElem h]
def cl (n:Nat):Nat:=bl n-1
theorem cl_fact {n:Nat} (h1:1≤n) (h:n<256):2 ^ cl n≤n∧n<2 ^ (cl n+1)∧cl n≤7∧bl n=cl n+1:=by
 have hb:1≤bl n:=by unfold bl;rw [if_neg (by omega)];omega
 have e:cl n+1=bl n:=by unfold cl;omega
 refine ⟨bl_ge n (cl n) h (by unfold cl;omega),by rw [e];exact bl_lt n h,by have:=bl_le n h;unfold cl;omega,e.symm⟩
abbrev SyT :=List Int × Nat × Nat
def putL (st:SyT) (z:Int):SyT:=(st.1++[z / 16],st.2.1+4,st.2.2+(z % 16).toNat*2 ^ st.2.1)
def putN (base n:Nat) (st:SyT):SyT:=(st.1++[((base+cl n:Nat):Int)],st.2.1+cl n,st.2.2+(n-2 ^ cl n)*2 ^ st.2.1)
def putLs (ls:List Int) (st:SyT):SyT:=ls.foldl putL st
def putQ (st:SyT) (s:Sq):SyT:=if s.n=0 then putLs s.ls st else putN 28 s.d.toNat (putN 16 (s.n.toNat-2) (putLs s.ls st))
def syOf (ss:List Sq):SyT:=ss.foldl putQ ([],0,0)
theorem putLs_take (ls:List Int) (st:SyT) (k:Nat) (h:k<ls.length):putLs (ls.take (k+1)) st=putL (putLs (ls.take k) st) (ls.getD k 0):=by
 unfold putLs
 rw [List.take_add_one,List.foldl_append,List.getD_eq_getElem?_getD,List.getElem?_eq_getElem h]
 rfl
theorem syOf_take (ss:List Sq) (k:Nat) (h:k<ss.length):syOf (ss.take (k+1))=putQ (syOf (ss.take k)) (ss.getD k dq):=by
 unfold syOf
 rw [List.take_add_one,List.foldl_append,List.getD_eq_getElem?_getD,List.getElem?_eq_getElem h]
 rfl
theorem putLs_len (ls:List Int) (st:SyT):(putLs ls st).1.length=st.1.length+ls.length∧(putLs ls st).2.1=st.2.1+4*ls.length:=by
 unfold putLs
 induction ls generalizing st with
 | nil=>simp
 | cons z t ih=>
  rw [List.foldl_cons]
  have:=ih (putL st z)
  simp only [putL,List.length_append,List.length_cons,List.length_nil] at this ⊢
  omega
theorem sqc_lets {ss:List Sq} (k m:Nat) (h:sqc ss k=some m) (hk:k≤ss.length):lets (ss.take k)≤m∧∀ j,j<k→(ss.getD j dq).n=0∨(3≤(ss.getD j dq).n∧(ss.getD j dq).n≤64∧1≤(ss.getD j dq).d∧(ss.getD j dq).d≤64):=by
 induction k generalizing m with
 | zero=>exact ⟨by simp [lets],fun j hj=>by omega⟩
 | succ k ih=>
  cases hm:sqc ss k with
  | none=>
   rw [sqc_none hm (k+1) (by omega)] at h
   cases h
  | some m0=>
   obtain ⟨i1,i2⟩:=ih m0 hm (by omega)
   rw [sqc_step hm] at h
   have hl:=lets_take_succ ss k (by omega)
   by_cases ho:64<m0+(ss.getD k dq).ls.length
   ·rw [stp_over ho] at h
    cases h
   ·by_cases h0:(ss.getD k dq).n=0
    ·rw [stp_rest ho h0] at h
     split at h
     ·simp only [Option.some.injEq] at h
      refine ⟨by omega,fun j hj=>?_⟩
      by_cases he:j=k
      ·rw [he];exact .inl h0
      ·exact i2 j (by omega)
     ·cases h
    ·rw [stp_piece ho h0] at h
     split at h
     ·rename_i hh
      simp only [Option.some.injEq] at h
      refine ⟨by omega,fun j hj=>?_⟩
      by_cases he:j=k
      ·rw [he];exact .inr (by omega)
      ·exact i2 j (by omega)
     ·cases h
theorem sqn_lets {ss:List Sq} (h:(sqn ss).isSome=true):ss.length≤40∧lets ss≤64∧∀ j,j<ss.length→(ss.getD j dq).n=0∨(3≤(ss.getD j dq).n∧(ss.getD j dq).n≤64∧1≤(ss.getD j dq).d∧(ss.getD j dq).d≤64):=by
 cases hs:sqn ss with
 | none=>rw [hs] at h;cases h
 | some m=>
  unfold sqn at hs
  split at hs
  ·cases hs
  ·rename_i hl
   have:=sqc_lets ss.length m hs nl
   have hm:=sqc_le hs
   rw [List.take_length] at this
   exact ⟨by omega,by omega,this.2⟩
theorem putQ_len (st:SyT) (s:Sq) (h:s.n=0∨(3≤s.n∧s.n≤64∧1≤s.d∧s.d≤64)):(putQ st s).1.length≤st.1.length+s.ls.length+2∧(putQ st s).2.1≤st.2.1+4*s.ls.length+14:=by
 have hp:=putLs_len s.ls st
 unfold putQ
 split
 ·omega
 ·rename_i h0
  have hr:=h.resolve_left h0
  have c1:=cl_fact (n:=s.n.toNat-2) (by omega) (by omega)
  have c2:=cl_fact (n:=s.d.toNat) (by omega) (by omega)
  simp only [putN,List.length_append,List.length_cons,List.length_nil]
  omega
theorem syOf_len {ss:List Sq} (h:∀ j,j<ss.length→(ss.getD j dq).n=0∨(3≤(ss.getD j dq).n∧(ss.getD j dq).n≤64∧1≤(ss.getD j dq).d∧(ss.getD j dq).d≤64)) (k:Nat) (hk:k≤ss.length):(syOf (ss.take k)).1.length≤lets (ss.take k)+2*k∧(syOf (ss.take k)).2.1≤4*lets (ss.take k)+14*k:=by
 induction k with
 | zero=>simp [syOf,lets]
 | succ k ih=>
  have i:=ih (by omega)
  have hl:=lets_take_succ ss k (by omega)
  rw [syOf_take ss k (by omega)]
  have hq:=putQ_len (syOf (ss.take k)) (ss.getD k dq) (h k (by omega))
  omega
theorem lets_take_le (ss:List Sq) (k:Nat):lets (ss.take k)≤lets ss:=by
 have h1:=lets_app (ss.take k) (ss.drop k)
 rw [List.take_append_drop] at h1
 omega
def putC (st:SyT) (c:List Int × Int × Int):SyT:=if c.2.1=0 then putLs c.1 st else putN 28 c.2.2.toNat (putN 16 (c.2.1.toNat-2) (putLs c.1 st))
theorem syOf_cs (ss:List Sq):syOf ss=(ss.map Sq.ct).foldl putC ([],0,0):=by
 unfold syOf
 rw [List.foldl_map]
 rfl
abbrev Ct :=List Int × Int × Int
def stC (o:Option Nat) (c:Ct):Option Nat:=o.bind (fun m=>if m+c.1.length≤64∧3≤c.2.1∧c.2.1≤64-((m+c.1.length:Nat):Int)∧1≤c.2.2∧c.2.2≤((m+c.1.length:Nat):Int) then some (m+c.1.length+c.2.1.toNat) else none)
def PsC (cs:List Ct) (f:Nat):Prop:=cs.foldl stC (some 0)=some f∧3*cs.length≤f
theorem lzA_piece {ys:List Int} {q:Nat} (hq:q<ys.length) (h:0<(lz ys q).1):3≤(lz ys q).1∧1≤(lz ys q).2∧(lz ys q).2≤q∧q+(lz ys q).1≤ys.length:=by
 have hl:=lz_le ys q
 rw [lz_at hq] at h hl ⊢
 unfold lzA at h hl ⊢
 split at h
 ·simp at h
 ·rename_i h3
  rw [if_neg h3] at hl ⊢
  rcases (lzD_spec ys q q).2 with h4 | ⟨d,d1,d2,d3,_⟩
  ·rw [h4] at h;simp at h
  ·rw [d3] at h3 hl ⊢
   simp only at h3 hl ⊢
   omega
theorem go_ps (ys:List Int) (hn:ys.length≤64):∀ (n f q:Nat) (cs:List Ct),PsC cs f→f≤q→q≤ys.length→PsC (go ys n f q cs).2 (go ys n f q cs).1∧(go ys n f q cs).1≤ys.length
 | 0,f,q,cs,h,h1,h2=>⟨h,by show f≤_;omega⟩
 | n+1,f,q,cs,h,h1,h2=>by
  simp only [go]
  split
  ·rename_i hq
   split
   ·rename_i ht
    obtain ⟨p1,p2,p3,p4⟩:=lzA_piece hq ht.1
    have hc:=cutL_len ys f q h1 h2
    refine go_ps ys hn n _ _ _ ⟨?_,?_⟩ nl (by omega)
    ·rw [List.foldl_append,h.1]
     simp only [List.foldl_cons,List.foldl_nil,stC,Option.bind_some,hc]
     rw [if_pos (by omega)]
     simp only [Int.toNat_natCast,Option.some.injEq]
     omega
    ·have:=h.2
     rw [List.length_append]
     simp only [List.length_cons,List.length_nil]
     omega
   ·exact go_ps ys hn n f (q+1) cs h (by omega) (by omega)
  ·exact ⟨h,by show f≤_;omega⟩
theorem psC_get {cs:List Ct} {f:Nat} (h:cs.foldl stC (some 0)=some f):∀ (ss:List Sq) (k:Nat),k≤cs.length→cs.length≤ss.length→(ss.map Sq.ct).take cs.length=cs→sqc ss k=(cs.take k).foldl stC (some 0):=by
 have hnone:∀ l:List Ct,l.foldl stC none=none:=by
  intro l
  induction l with
  | nil=>rfl
  | cons c l ih=>exact ih
 intro ss k
 induction k with
 | zero=>intro _ _ _;rfl
 | succ k ih=>
  intro hk hl he
  have hi:=ih (by omega) hl he
  have hg:(ss.getD k dq).ct=cs[k]'(by omega):=by
   have:((ss.map Sq.ct).take cs.length)[k]?=cs[k]?:=by rw [he]
   rw [List.getElem?_take,if_pos (by omega),List.getElem?_map,List.getElem?_eq_getElem (by omega),List.getElem?_eq_getElem (by omega)] at this
   rw [List.getD_eq_getElem?_getD,List.getElem?_eq_getElem (by omega)]
   simpa using this
  rw [List.take_succ_eq_append_getElem (by omega),List.foldl_append]
  simp only [List.foldl_cons,List.foldl_nil]
  obtain ⟨m,hm⟩:∃ m,(cs.take k).foldl stC (some 0)=some m:=by
   cases hq:(cs.take k).foldl stC (some 0) with
   | some m=>exact ⟨m,rfl⟩
   | none=>
    have:cs.foldl stC (some 0)=none:=by
     rw [←List.take_append_drop k cs,List.foldl_append,hq]
     exact hnone _
    rw [this] at h
    cases h
  have hv:∃ v,stC (some m) (cs[k]'(by omega))=some v:=by
   cases hq:stC (some m) (cs[k]'(by omega)) with
   | some v=>exact ⟨v,rfl⟩
   | none=>
    have:cs.foldl stC (some 0)=none:=by
     rw [←List.take_append_drop (k+1) cs,List.foldl_append,List.take_succ_eq_append_getElem (by omega),List.foldl_append,hm]
     simp only [List.foldl_cons,List.foldl_nil,hq]
     exact hnone _
    rw [this] at h
    cases h
  rw [hm] at hi ⊢
  rw [sqc_step hi]
  rw [←hg] at hv ⊢
  simp only [Sq.ct] at hv ⊢
  obtain ⟨v,hv⟩:=hv
  simp only [stC,Option.bind_some] at hv ⊢
  split at hv
  ·rename_i hc
   rw [if_pos hc,stp_piece (by omega) (by omega),if_pos (by omega)]
  ·cases hv
theorem found_sqn {ys:List Int} (hn:ys.length≤64) {ss:List Sq} (h:ss.map Sq.ct=found ys):sqn ss=some ys.length:=by
 obtain ⟨hp,hle⟩:=go_ps ys hn ys.length 0 0 [] ⟨rfl,by simp⟩ nl (Nat.zero_le _)
 have hlen:ss.length=(found ys).length:=by rw [←h,List.length_map]
 unfold found fin at h hlen
 generalize (go ys ys.length 0 0 []).1=f at *
 generalize (go ys ys.length 0 0 []).2=cs at *
 have h3:=hp.2
 split at h
 ·rename_i hf
  rw [if_pos hf,List.length_append] at hlen
  simp only [List.length_cons,List.length_nil] at hlen
  have hk:=psC_get hp.1 ss cs.length nl (by omega) (by rw [h];simp)
  rw [List.take_length,hp.1] at hk
  refine sqn_some ?_ (by omega)
  rw [hlen,sqc_step hk]
  have hg:(ss.getD cs.length dq).ct=(cutL ys f ys.length,0,0):=by
   have:(ss.map Sq.ct)[cs.length]?=some (cutL ys f ys.length,0,0):=by rw [h];simp
   rw [List.getElem?_map,List.getElem?_eq_getElem (by omega)] at this
   rw [List.getD_eq_getElem?_getD,List.getElem?_eq_getElem (by omega)]
   simpa using this
  simp only [Sq.ct,Prod.mk.injEq] at hg
  have hc:=cutL_len ys f ys.length (by omega) nl
  rw [stp_rest (by rw [hg.1,hc];omega) hg.2.1,if_pos ⟨hg.2.2,by simpa using hlen.symm,by rw [hg.1,hc];omega⟩,hg.1,hc]
  congr 1
  omega
 ·rename_i hf
  rw [if_neg hf] at hlen
  have hk:=psC_get hp.1 ss cs.length nl (by omega) (by rw [h];simp)
  rw [List.take_length,hp.1] at hk
  refine sqn_some ?_ (by omega)
  rw [hlen,hk]
  congr 1
  omega
theorem syOf_few {ss:List Sq} (hb:∀ s ∈ ss,∀ z ∈ s.ls,0≤z∧z≤255):∀ k m,k≤ss.length→sqc ss k=some m→(syOf (ss.take k)).1.length≤m∧(syOf (ss.take k)).2.1≤4*m∧(1≤k→1≤(syOf (ss.take k)).1.length)∧∀ z ∈ (syOf (ss.take k)).1,0≤z∧z<40
 | 0,m,_,h=>by
  simp [sqc] at h
  simp [syOf]
 | k+1,m,hk,h=>by
  cases hm:sqc ss k with
  | none=>rw [sqc_none hm (k+1) (by omega)] at h;cases h
  | some m0=>
   obtain ⟨i1,i2,i3,i4⟩:=syOf_few hb k m0 (by omega) hm
   rw [sqc_step hm] at h
   rw [syOf_take ss k (by omega)]
   have hmem:ss.getD k dq ∈ ss:=getD_memS (by omega)
   have hbz:=hb _ hmem
   generalize ss.getD k dq=s at *
   generalize syOf (ss.take k)=st at *
   have hL:=putLs_len s.ls st
   have hLz:∀ z ∈ (putLs s.ls st).1,0≤z∧z<40:=by
    have:∀ (l:List Int) (st:SyT),(∀ z ∈ l,0≤z∧z≤255)→(∀ z ∈ st.1,0≤z∧z<40)→∀ z ∈ (putLs l st).1,0≤z∧z<40:=by
     intro l
     induction l with
     | nil=>intro st _ h2;exact h2
     | cons y l ih=>
      intro st h1 h2
      refine ih (putL st y) (fun z hz=>h1 z (by simp [hz])) (fun z hz=>?_)
      simp only [putL] at hz
      rcases List.mem_append.1 hz with hz | hz
      ·exact h2 z hz
      ·have:=h1 y (by simp)
       obtain rfl:z=y / 16:=by simpa using hz
       omega
    exact this s.ls st hbz i4
   by_cases ho:64<m0+s.ls.length
   ·rw [stp_over ho] at h;cases h
   ·by_cases h0:s.n=0
    ·rw [stp_rest ho h0] at h
     split at h
     ·rename_i hr
      simp only [Option.some.injEq] at h
      unfold putQ
      rw [if_pos h0]
      exact ⟨by omega,by omega,fun _=>by omega,hLz⟩
     ·cases h
    ·rw [stp_piece ho h0] at h
     split at h
     ·rename_i hr
      simp only [Option.some.injEq] at h
      unfold putQ
      rw [if_neg h0]
      have c1:=cl_fact (n:=s.n.toNat-2) (by omega) (by omega)
      have c2:=cl_fact (n:=s.d.toNat) (by omega) (by omega)
      have e1:cl (s.n.toNat-2)≤5:=by
       rcases Nat.lt_or_ge 5 (cl (s.n.toNat-2)) with h9 | h9
       ·have:2 ^ 6≤2 ^ cl (s.n.toNat-2):=Nat.pow_le_pow_right (by omega) h9
        omega
       ·exact h9
      have e2:cl s.d.toNat≤6:=by
       rcases Nat.lt_or_ge 6 (cl s.d.toNat) with h9 | h9
       ·have:2 ^ 7≤2 ^ cl s.d.toNat:=Nat.pow_le_pow_right (by omega) h9
        omega
       ·exact h9
      refine ⟨?_,?_,fun _=>?_,fun z hz=>?_⟩
      ·simp only [putN,List.length_append,List.length_cons,List.length_nil];omega
      ·simp only [putN];omega
      ·simp only [putN,List.length_append,List.length_cons,List.length_nil];omega
      ·simp only [putN] at hz
       rcases List.mem_append.1 hz with hz | hz
       ·rcases List.mem_append.1 hz with hz | hz
        ·exact hLz z hz
        ·obtain rfl:z=((16+cl (s.n.toNat-2):Nat):Int):=by simpa using hz
         omega
       ·obtain rfl:z=((28+cl s.d.toNat:Nat):Int):=by simpa using hz
        omega
     ·cases h
theorem found_syms {ys:List Int} (hn:ys.length=64) {ss:List Sq} (h:ss.map Sq.ct=found ys) (hb:∀ s ∈ ss,∀ z ∈ s.ls,0≤z∧z≤255):(sqn ss).isSome=true∧txtB (syOf ss).1 40=true∧1≤(syOf ss).1.length∧(syOf ss).1.length≤64∧(syOf ss).2.1≤256:=by
 have hs:=found_sqn (by omega) h
 have hs2:=hs
 unfold sqn at hs2
 split at hs2
 ·cases hs2
 ·have hf:=syOf_few hb ss.length ys.length nl hs2
  rw [List.take_length] at hf
  have h1:1≤ss.length:=by
   rcases Nat.lt_or_ge ss.length 1 with h9 | h9
   ·obtain rfl:ss=[]:=List.eq_nil_of_length_eq_zero (by omega)
    simp [sqc] at hs2
    omega
   ·exact h9
  refine ⟨by rw [hs];rfl,?_,hf.2.2.1 h1,by omega,by omega⟩
  simp only [txtB,decide_eq_true_eq]
  exact ⟨by omega,by omega,by omega,hf.2.2.2⟩
end Go.Proofs.YtfeokafkhnbdiaaGreatDoor
