/-
  Rows of bytes that grow by an append, of whatever bytes.
-/
import Derived.Test.YtiabhcfcpkkhoaaGreatDoorElC
import Derived.Test.YtiabhcfcpkkhoaaGreatDoorNum
namespace Go.Proofs.YtiabhcfcpkkhoaaGreatDoor
open Go.RowKit
set_option linter.unusedVariables false

structure Sq where
  a:Option Addr
  c:Nat
  ls:List Int
  n:Int
  d:Int
def Sq.ct (s:Sq):List Int × Int × Int:=(s.ls,s.n,s.d)
def dq :Sq:=⟨none,0,[],0,0⟩
def rI (z:Int):Prop:=-9223372036854775808≤z∧z≤9223372036854775807
def Sq.cells (s:Sq):List Value:=[.slice s.a s.ls.length s.c,.int .i64 s.n,.int .i64 s.d]

structure Lies (w:World) (b o:Nat) (s:Sq):Prop where
  c0:w.cell? ⟨b,o,none⟩=some (.slice s.a s.ls.length s.c)
  c1:w.cell? ⟨b,o+1,none⟩=some (.int .i64 s.n)
  c2:w.cell? ⟨b,o+2,none⟩=some (.int .i64 s.d)
  byt:Byt w s.a s.ls

def Sqs (w:World) (a:Option Addr) (ss:List Sq):Prop:=
  (∀ s ∈ ss,rI s.n∧rI s.d∧s.ls.length≤maxLen)∧(0<ss.length→∃ b off,a=some ⟨b,off,none⟩∧b<w.heap.size∧∀ i,i<ss.length→Lies w b (off+i * 3) (ss.getD i dq))

theorem Lies.below {w w':World} {b o:Nat} {s:Sq} {B:Nat} (h:Lies w b o s) (hb:Below B w w') (hB:w.heap.size≤B) (hlt:b<w.heap.size):Lies w' b o s:=
  ⟨keep hb (by omega) h.c0,keep hb (by omega) h.c1,keep hb (by omega) h.c2,h.byt.below hb hB⟩
theorem Sqs.below {w w':World} {a:Option Addr} {ss:List Sq} {B:Nat} (h:Sqs w a ss) (hb:Below B w w') (hB:w.heap.size≤B):Sqs w' a ss:=by
  refine ⟨h.1,fun hz=>?_⟩
  obtain ⟨b,off,rfl,hlt,hc⟩:=h.2 hz
  exact ⟨b,off,rfl,Nat.lt_of_lt_of_le hlt hb.size,fun i hi=>(hc i hi).below hb hB hlt⟩
theorem Sqs.len_pos {w:World} {a:Option Addr} {ss:List Sq} (h:Sqs w a ss) (i:Nat) (hi:i<ss.length):∃ b off,a=some ⟨b,off,none⟩∧b<w.heap.size∧∀ i,i<ss.length→Lies w b (off+i * 3) (ss.getD i dq):=h.2 (by omega)
theorem getD_memS {ss:List Sq} {k:Nat} (hk:k<ss.length):ss.getD k dq ∈ ss:=by
  rw [List.getD_eq_getElem?_getD,List.getElem?_eq_getElem hk];exact List.getElem_mem hk
theorem Sqs.rng {w:World} {a:Option Addr} {ss:List Sq} (h:Sqs w a ss) (k:Nat) (hk:k<ss.length):rI (ss.getD k dq).n∧rI (ss.getD k dq).d∧(ss.getD k dq).ls.length≤maxLen:=h.1 _ (getD_memS hk)

theorem flat_get (ss:List Sq):∀ k,k<ss.length→(ss.flatMap Sq.cells)[k * 3]?=some (.slice (ss.getD k dq).a (ss.getD k dq).ls.length (ss.getD k dq).c)∧(ss.flatMap Sq.cells)[k * 3+1]?=some (.int .i64 (ss.getD k dq).n)∧(ss.flatMap Sq.cells)[k * 3+2]?=some (.int .i64 (ss.getD k dq).d):=by
  induction ss with
  | nil => intro k hk; simp at hk
  | cons s ss ih =>
    intro k hk
    cases k with
    | zero => simp [List.flatMap_cons, Sq.cells]
    | succ k =>
      have:=ih k (by simpa using hk)
      rw [List.flatMap_cons,show (k+1) * 3=k * 3+3 from by omega]
      simpa [Sq.cells] using this
theorem flat_set (s:Sq) (ss:List Sq):∀ k,k<ss.length→(((ss.flatMap Sq.cells).set (k * 3) (.slice s.a s.ls.length s.c)).set (k * 3+1) (.int .i64 s.n)).set (k * 3+2) (.int .i64 s.d)=(ss.set k s).flatMap Sq.cells:=by
  induction ss with
  | nil => intro k hk; simp at hk
  | cons x ss ih =>
    intro k hk
    cases k with
    | zero => simp [List.flatMap_cons, Sq.cells]
    | succ k =>
      have:=ih k (by simpa using hk)
      rw [List.set_cons_succ,List.flatMap_cons,List.flatMap_cons,← this,show (k+1) * 3=k * 3+3 from by omega]
      simp [Sq.cells]

structure OwS (w:World) (B g cap:Nat) (ss:List Sq):Prop where
  row:w.ownsRow B 88 3 (.slice (some ⟨g,0,none⟩) ss.length cap) ss.length (ss.flatMap Sq.cells)
  rng:∀ s ∈ ss,rI s.n∧rI s.d∧s.ls.length≤maxLen
  mine:∀ s ∈ ss,Mine w B w.heap.size s.a s.c s.ls
  apart:∀ i j,i<ss.length→j<ss.length→i≠j→∀ k,rowOf (ss.getD i dq).a k→¬ rowOf (ss.getD j dq).a k

section
variable {w w' : World} {B g cap : Nat} {ss : List Sq}
theorem OwS.lt (h:OwS w B g cap ss):B≤g∧g<w.heap.size:=h.row.lt g rfl
theorem OwS.lies (h:OwS w B g cap ss) (i:Nat) (hi:i<ss.length):Lies w g (0+i * 3) (ss.getD i dq):=by
  obtain ⟨f0,f1,f2⟩:=flat_get ss i hi
  refine ⟨?_,?_,?_,(h.mine _ (getD_memS hi)).byt⟩
  · rw [Nat.zero_add,h.row.cellAt (i * 3) (by omega),f0]
  · rw [Nat.zero_add,h.row.cellAt (i * 3+1) (by omega),f1]
  · rw [Nat.zero_add,h.row.cellAt (i * 3+2) (by omega),f2]
theorem OwS.sqs (h:OwS w B g cap ss):Sqs w (some ⟨g,0,none⟩) ss:=⟨h.rng,fun _=>⟨g,0,rfl,h.lt.2,fun i hi=>h.lies i hi⟩⟩
theorem OwS.frozen (h:OwS w B g cap ss) (i:Nat):w.frozen? ⟨g,i,none⟩=false:=h.row.frozenAt i
theorem rowStay {T:TypeId} {sz:Nat} {v:Value} {n:Nat} {xs:List Value} {S:Nat→Prop} (h:w.ownsRow B T sz v n xs) (ho:Only S w w') (hs:∀ k,v.ownBlock=some k→¬ S k):w'.ownsRow B T sz v n xs:=by
  refine ⟨h.1,?_⟩
  rcases h.2 with h' | ⟨g,cap,cur,rfl,hg,hh,r⟩
  · exact .inl h'
  · exact .inr ⟨g,cap,cur,rfl,hg,(ho.block g (Array.getElem?_eq_some_iff.1 hh).1 (hs g rfl)).trans hh,r⟩
theorem OwS.only {S:Nat→Prop} (h:OwS w B g cap ss) (ho:Only S w w') (hs:∀ k,B≤k→k<w.heap.size→¬ S k):OwS w' B g cap ss:=
  ⟨rowStay h.row ho (fun k hk=>by
      have e:g=k:=by simpa [Value.ownBlock] using hk
      subst e
      exact hs g h.lt.1 h.lt.2),h.rng,fun s hm=>((h.mine s hm).only ho hs).mono (Nat.le_refl _) ho.size,h.apart⟩
theorem OwS.below (h:OwS w B g cap ss) (hb:Below w.heap.size w w'):OwS w' B g cap ss:=h.only (Only.ofBelow (S:=fun _=>False) hb (Nat.le_refl _)) (by simp)
theorem Mine.rowB {a:Option Addr} {U c k:Nat} {zs:List Int} (h:Mine w B U a c zs) (hr:rowOf a k):B≤k∧k<U:=by
  obtain ⟨x,hx,rfl⟩:=hr
  rcases h with ⟨h',_⟩ | ⟨g,h',g1,g2,_⟩
  · rw [h'] at hx;cases hx
  · rw [h'] at hx
    simp at hx
    rw [← hx]
    exact ⟨g1,g2⟩
theorem OwS.other (h:OwS w B g cap ss) {a:Option Addr} {B' U c:Nat} {zs:List Int} (hm:Mine w B' U a c zs):¬ rowOf a g:=by
  rintro ⟨x,hx,hxg⟩
  rcases hm with ⟨h',_⟩ | ⟨g',h',g1,g2,ho⟩
  · rw [h'] at hx;cases hx
  · rw [h'] at hx
    simp at hx
    rw [← hx] at hxg
    simp at hxg
    subst hxg
    rcases ho.1.2 with ⟨e,_⟩ | ⟨k,cap1,cur1,e,_,hh,_⟩
    · simp at e
    · obtain rfl:g'=k:=by simp at e;exact e.1
      rcases h.row.2 with ⟨e2,_⟩ | ⟨k2,cap2,cur2,e2,_,hh2,_⟩
      · simp at e2
      · obtain rfl:g'=k2:=by simp at e2;exact e2.1
        rw [hh] at hh2
        simp at hh2
theorem getD_setS (ss:List Sq) (k i:Nat) (s:Sq) (hk:k<ss.length):(ss.set k s).getD i dq=if i=k then s else ss.getD i dq:=by
  by_cases h:i=k
  · subst h
    rw [if_pos rfl,List.getD_eq_getElem?_getD,List.getElem?_set_self hk];rfl
  · rw [if_neg h]
    simp only [List.getD_eq_getElem?_getD,List.getElem?_set_ne (Ne.symm h)]
theorem OwS.store (h:OwS w B g cap ss) (k:Nat) (hk:k<ss.length) (s:Sq) (hr:rI s.n∧rI s.d∧s.ls.length≤maxLen) (hm:Mine w B w.heap.size s.a s.c s.ls) (hap:∀ i,i<ss.length→i≠k→∀ b,rowOf s.a b→¬ rowOf (ss.getD i dq).a b) :
    OwS (((w.setCell ⟨g,k * 3,none⟩ (.slice s.a s.ls.length s.c)).setCell ⟨g,k * 3+1,none⟩ (.int .i64 s.n)).setCell ⟨g,k * 3+2,none⟩ (.int .i64 s.d)) B g cap (ss.set k s):=by
  have r1:=(h.row.stored (k * 3) (.slice s.a s.ls.length s.c)).1
  have r2:=(r1.stored (k * 3+1) (.int .i64 s.n)).1
  have r3:=(r2.stored (k * 3+2) (.int .i64 s.d)).1
  rw [flat_set s ss k hk] at r3
  have hon:Only (fun b=>b=g) w (((w.setCell ⟨g,k * 3,none⟩ (.slice s.a s.ls.length s.c)).setCell ⟨g,k * 3+1,none⟩ (.int .i64 s.n)).setCell ⟨g,k * 3+2,none⟩ (.int .i64 s.d)):=
    (((Only.refl (fun b=>b=g) w).setCell (p:=⟨g,k * 3,none⟩) (.inl rfl) _).setCell (p:=⟨g,k * 3+1,none⟩) (.inl rfl) _).setCell (p:=⟨g,k * 3+2,none⟩) (.inl rfl) _
  have stay:∀ {t:Sq},Mine w B w.heap.size t.a t.c t.ls→Mine (((w.setCell ⟨g,k * 3,none⟩ (.slice s.a s.ls.length s.c)).setCell ⟨g,k * 3+1,none⟩ (.int .i64 s.n)).setCell ⟨g,k * 3+2,none⟩ (.int .i64 s.d)) B (((w.setCell ⟨g,k * 3,none⟩ (.slice s.a s.ls.length s.c)).setCell ⟨g,k * 3+1,none⟩ (.int .i64 s.n)).setCell ⟨g,k * 3+2,none⟩ (.int .i64 s.d)).heap.size t.a t.c t.ls:=by
    intro t ht
    have hne:=h.other ht
    rcases ht with ht | ⟨g',h',g1,g2,ho⟩
    · exact .inl ht
    · refine .inr ⟨g',h',g1,Nat.lt_of_lt_of_le g2 hon.size,ho.only hon (fun e=>hne ⟨_,h',e⟩)⟩
  refine ⟨by rw [List.length_set];exact r3,?_,?_,?_⟩
  · intro t ht
    rcases List.mem_or_eq_of_mem_set ht with ht | rfl
    · exact h.rng t ht
    · exact hr
  · intro t ht
    rcases List.mem_or_eq_of_mem_set ht with ht | rfl
    · exact stay (h.mine t ht)
    · exact stay hm
  · intro i j hi hj hij b
    rw [List.length_set] at hi hj
    rw [getD_setS ss k i s hk,getD_setS ss k j s hk]
    by_cases h1:i=k
    · rw [if_pos h1,if_neg (by omega)]
      exact hap j hj (by omega) b
    · rw [if_neg h1]
      by_cases h2:j=k
      · rw [if_pos h2]
        exact fun h3 h4=>hap i hi h1 b h4 h3
      · rw [if_neg h2]
        exact h.apart i j hi hj hij b
end
set_option maxHeartbeats 400000 in
theorem toByteS_any (a:Option Addr) (cap:Nat) (zs:List Int) (w:World) (hb:Byt w a zs) (hn:zs.length≤1048576) :
    Calls Tryz.prog 23 #[.slice a zs.length cap] w fun e w'=>
      e=.returned (.slice (some ⟨w.heap.size,0,none⟩) zs.length zs.length)∧Own w' w.heap.size w.heap.size zs.length zs∧Below w.heap.size w w':=by
  obtain ⟨i0,hi,hz0,hz1,hz2⟩:=info_parts Tryz.infoU8
  generalize hlen:zs.length=n at *
  have HL:Hid (zs.length=n):=hlen
  clear hlen
  go_enter Tryz.func23,Tryz.ntmps23
  go_wp2_with (at_make;refine wpList_make_full _ rfl _ _ 25 rfl w.heap.size 5 i0 (.int .u8 0) 1 Tryz.underlying25 hi hz0 hz1 .i64 .i64 _ _ n rfl rfl rfl rfl (by rw [hz2];omega) (by unfold maxLen;omega) (Nat.le_refl _) ?_;intro w1 hown hgrow)
  have h0:Own w1 w.heap.size w.heap.size n (part zs 0):=by
    rw [part_zero,HL.out]
    refine ⟨?_,by intro z hz;simp at hz;omega⟩
    rw [made_zero] at hown
    simpa using hown
  have hbw:Below w.heap.size w w1:=(Below.refl _ _).grown hgrow (Nat.le_refl _) (by intro k hk;cases hk)
  have H0:Hid (Own w1 w.heap.size w.heap.size n (part zs 0)):=h0
  clear h0 hown hgrow hi hz0 hz1 hz2
  go_loopw [4] (fun i wr=>∃ k:Nat,k≤n∧i=.int .i64 k∧Own wr w.heap.size w.heap.size n (part zs k)∧Below w.heap.size w wr) (fun i _=>n - (intOf i).toNat)
  case atStart=>exact ⟨0,Nat.zero_le _,rfl,H0.out,hbw⟩
  case round=>
    obtain ⟨k,hk,rfl,hown,hbel⟩:=hrel
    have HO:Hid (Own wr w.heap.size w.heap.size n (part zs k)):=hown
    clear hown hbw
    by_cases hlt:k<n
    · obtain ⟨b,off,rfl,hbl,hcells⟩:=hb.len_pos k (by rw [HL.out];exact hlt)
      have hpl:(part zs k).length=n:=by rw [part_len _ _ (by rw [HL.out];omega)];exact HL.out
      have hsrc:wr.cell? ⟨b,off+k,none⟩=some (.int .u8 (zs.getD k 0)):=(hbel.cell (p:=⟨b,off+k,none⟩) hbl).trans (hcells k (by rw [HL.out];exact hlt))
      have hdst:=HO.out.cell k (by omega)
      have hfz:=HO.out.frozen k
      have hrng:=getD_rng hb.1 k
      have R:=HO.out.store k (zs.getD k 0) hrng
      rw [part_set _ _ (by rw [HL.out];exact hlt)] at R
      have HR:Hid (Own (wr.setCell ⟨w.heap.size,k,none⟩ (.int .u8 (zs.getD k 0))) w.heap.size w.heap.size n (part zs (k+1))):=R
      have hbel':=hbel.setCell (p:=⟨w.heap.size,k,none⟩) (Nat.le_refl _) (.int .u8 (zs.getD k 0))
      have HB:Hid (Below w.heap.size w (wr.setCell ⟨w.heap.size,k,none⟩ (.int .u8 (zs.getD k 0)))):=hbel'
      clear R hcells hpl hbel' hrng hb
      go_wp2
      go_roundw
      case rel=>exact ⟨k+1,by omega,by go_num,by simpa using HR.out,by simpa using HB.out⟩
      case measure=>simp [intOf];omega
    · have hkn:k=n:=by omega
      subst hkn
      have hall:=HO.out
      rw [← HL.out,part_all,HL.out] at hall
      have HA:Hid (Own wr w.heap.size w.heap.size k zs):=hall
      clear hall
      go_wp2
      go_ret
      exact ⟨rfl,HA.out,hbel⟩
theorem Tryz.infoSeq :(Tryz.prog.info? 88).map (fun i=>(i.zero,i.size,i.bytes))=some (some (.agg #[.slice none 0 0,.int .i64 0,.int .i64 0]),3,40):=by kernel_rfl
def OVB (w:World) (B:Nat) (v:Value) (zs:List Int):Prop:=w.ownsRow B 5 1 v zs.length (zs.map (Value.int .u8))∧∀ z ∈ zs,0≤z∧z≤255

theorem OVB.nil (w:World) (B:Nat):OVB w B (.slice none 0 0) []:=⟨⟨rfl,.inl ⟨rfl,rfl⟩⟩,by simp⟩
theorem OVB.form {w:World} {B:Nat} {v:Value} {zs:List Int} (h:OVB w B v zs):∃ (a:Option Addr) (c:Nat),v=.slice a zs.length c:=by
  rcases h.1.2 with ⟨rfl,h0⟩ | ⟨g,cap,cur,rfl,_⟩
  · exact ⟨none,0,by rw [h0]⟩
  · exact ⟨_,_,rfl⟩
theorem OVB.blk {w:World} {B:Nat} {v:Value} {zs:List Int} (h:OVB w B v zs) {k:Nat} (hk:v.ownBlock=some k):B≤k:=by
  rcases h.1.2 with ⟨rfl,h0⟩ | ⟨g,cap,cur,rfl,hg,_⟩
  · simp [Value.ownBlock] at hk
  · simp [Value.ownBlock] at hk
    omega
theorem OVB.mine {w:World} {B:Nat} {v:Value} {zs:List Int} (h:OVB w B v zs):∃ (a:Option Addr) (cp:Nat),v=.slice a zs.length cp∧Mine w B w.heap.size a cp zs:=by
  rcases h.1.2 with ⟨rfl,h0⟩ | ⟨g,cap,cur,rfl,hg,hh,r⟩
  · exact ⟨none,0,by rw [h0],.inl ⟨rfl,List.eq_nil_of_length_eq_zero h0,rfl⟩⟩
  · exact ⟨some ⟨g,0,none⟩,cap,rfl,Own.mine (cap:=cap) h⟩
theorem OVB.stay {S:Nat→Prop} {w w':World} {B:Nat} {v:Value} {zs:List Int} (h:OVB w B v zs) (ho:Only S w w') (hs:∀ k,B≤k→¬ S k):OVB w' B v zs:=by
  refine ⟨⟨h.1.1,?_⟩,h.2⟩
  rcases h.1.2 with h' | ⟨g,cap,cur,h',hg,hh,r⟩
  · exact .inl h'
  · exact .inr ⟨g,cap,cur,h',hg,(ho.block g (Array.getElem?_eq_some_iff.1 hh).1 (hs g hg)).trans hh,r⟩
theorem OVB.weak {w:World} {B B':Nat} {v:Value} {zs:List Int} (h:OVB w B v zs) (hB:B'≤B):OVB w B' v zs:=by
  refine ⟨⟨h.1.1,?_⟩,h.2⟩
  rcases h.1.2 with h' | ⟨g,cap,cur,h',hg,r⟩
  · exact .inl h'
  · exact .inr ⟨g,cap,cur,h',by omega,r⟩
theorem OVB.alloc {w:World} {B:Nat} {v:Value} {zs:List Int} (h:OVB w B v zs) (o:Obj):OVB (w.alloc o) B v zs:=⟨h.1.alloc o,h.2⟩
theorem OVB.byt {w:World} {B:Nat} {a:Option Addr} {n c:Nat} {zs:List Int} (h:OVB w B (.slice a n c) zs):Byt w a zs:=by
  obtain ⟨a',c',e,hm⟩:=h.mine
  obtain ⟨rfl,-,-⟩:a=a'∧n=zs.length∧c=c':=by simpa using e
  exact hm.byt
theorem OVB.below {w w':World} {B:Nat} {v:Value} {zs:List Int} (h:OVB w B v zs) (hb:Below w.heap.size w w'):OVB w' B v zs:=h.stay (Only.ofBelow (S:=fun _=>False) hb (Nat.le_refl _)) (by simp)

theorem byt_one (w:World) (z:Int) (hz:0≤z∧z≤255):Byt (w.alloc (.cells #[.int .u8 z] 5)) (some ⟨w.heap.size,0,none⟩) [z]:=by
  refine ⟨by intro y hy;simp at hy;rw [hy];exact hz,fun _=>⟨w.heap.size,0,rfl,by simp,fun i hi=>?_⟩⟩
  obtain rfl:i=0:=by simp at hi;omega
  simp
theorem run_append_none {P:Program} (w:World) (t ty e:TypeId) (i:TypeInfo) (ht:P.underlying t=some (.slice e)) (hi:P.info? e=some i) (base size n:Nat) (v:Value) (xs:List Value) (hown:w.ownsRow base e size v n xs) (c:Nat) :
    (Builtin.append_ #[t,t] ty #[v,.slice none 0 c]).run P w=.ok v w:=by
  rcases hown.2 with ⟨rfl,rfl⟩ | ⟨g,cap,cur,rfl,_,hg,hnc,_⟩
  · simp [Builtin.append_,run_underlying ht,sizeOf,typeInfo,hi,Builtin.lenOf,Builtin.firstCells]
  · simp [Builtin.append_,run_underlying ht,sizeOf,typeInfo,hi,Builtin.lenOf,Builtin.firstCells,hnc,storeCells]

theorem wpList_append_byt {ops:Array Oper} {rest:List Oper} {o:Oper} {a:Act} {Q:Exit→Act→World→Prop} {w:World} (hgd:o.guard=none) (s x:Operand)
    (ho:o.op=.call { callee:=.builtin .append,args:=#[s,x],argTypes:=#[25,25] })
    (B:Nat) (v:Value) (zs:List Int) (hs:a.eval s=v) (hown:OVB w B v zs) (xa:Option Addr) (c:Nat) (ys:List Int) (hx:a.eval x=.slice xa ys.length c) (hy:Byt w xa ys) (hb1:zs.length+ys.length≤1000000) (hbase:B≤w.heap.size)
    (h:∀ v' w',OVB w' B v' (zs++ys)→w.grownBy w' v.ownBlock→wpList Tryz.prog ops Q rest (a.put o.dst v') w'):wpList Tryz.prog ops Q (o :: rest) a w:=by
  obtain ⟨i0,hi,hz0,hz1,hz2⟩:=info_parts Tryz.infoU8
  have hr:∀ z ∈ zs++ys,0≤z∧z≤255:=fun z hz=>(List.mem_append.1 hz).elim (hown.2 z) (hy.1 z)
  cases xa with
  | none =>
    have hy0:ys=[]:=by
      rcases Nat.eq_zero_or_pos ys.length with h0 | h0
      · exact List.eq_nil_of_length_eq_zero h0
      · obtain ⟨b,off,e,_⟩:=hy.2 h0
        cases e
    subst hy0
    refine wpList_plain hgd fun K hK'=>?_
    have hrun:=run_append_none (P:=Tryz.prog) w 25 o.type 5 i0 Tryz.underlying25 hi B 1 zs.length v _ hown.1 c
    unfold Oper.wp execOp
    simp only [List.length_nil] at hx
    simp only [ho,resolve,invoke,builtin,Sem.run_bind,Sem.run_pure,Result.andThen_ok,List.map_toArray,List.map_cons,List.map_nil,hs,hx,hrun]
    exact hK' _ _ (h v w (by simpa using hown) (World.grownBy.refl w _))
  | some ad =>
    have hnews:∀ j u,(ys.map (Value.int .u8))[j]?=some u→w.cell? (ad.add j)=some u:=by
      intro j u hu
      have hj:j<ys.length:=by
        rcases Nat.lt_or_ge j ys.length with h | h
        · exact h
        · rw [List.getElem?_eq_none (by simpa using h)] at hu;cases hu
      obtain ⟨b,off,e,_,hc⟩:=hy.2 (by omega)
      obtain rfl:ad=⟨b,off,none⟩:=by simpa using e
      exact news_of hc j u hu
    refine wpList_append_own w hgd s x 25 ho B 5 i0 (.int .u8 0) 1 1 Tryz.underlying25 hi hz0 hz1 hz2 rfl (by decide) v zs.length _ hs hown.1 ad ys.length c (ys.map (Value.int .u8)) hx (by simp) hnews (oneCells ys) (by unfold maxLen;omega) (by omega) hbase ?_
    intro v' w' h1 h2 _
    refine h v' w' ⟨?_,hr⟩ h2
    rw [List.length_append,List.map_append]
    exact h1
theorem appB_below {w0 wr w1:World} {B:Nat} {v:Value} {zs:List Int} (hbel:Below B w0 wr) (hB:B≤wr.heap.size) (h:OVB wr B v zs) (hg:wr.grownBy w1 v.ownBlock):Below B w0 w1:=
  hbel.grown hg hB (fun k hk=>h.blk hk)
theorem OVB.blk_ne {w:World} {B:Nat} {v:Value} {zs:List Int} (h:OVB w B v zs) {Q:Nat} {cur:Array Value} {T:TypeId} (hQ:w.heap[Q]?=some (.cells cur T (0,0))) (hT:T≠5):some Q≠v.ownBlock:=by
  rcases h.1.2 with ⟨rfl,h0⟩ | ⟨g,cap,cur',rfl,hg,hh,_⟩
  · simp [Value.ownBlock]
  · simp only [Value.ownBlock,ne_eq,Option.some.injEq]
    rintro rfl
    rw [hQ] at hh
    simp at hh
    exact hT hh.2
theorem grown_blk {w w':World} {row:Option Nat} (hg:w.grownBy w' row) {Q:Nat} {o:Obj} (hQ:w.heap[Q]?=some o) (hne:some Q≠row):w'.heap[Q]?=some o:=(hg.block Q (Array.getElem?_eq_some_iff.1 hQ).1 hne).trans hQ
theorem blk_cell {w:World} {R j:Nat} {cur:Array Value} {T:TypeId} {v:Value} (hR:w.heap[R]?=some (.cells cur T (0,0))) (hv:cur[j]?=some v):w.cell? ⟨R,j,none⟩=some v:=by
  rw [cell_of_row w R j cur T (0,0) hR];exact hv
end Go.Proofs.YtiabhcfcpkkhoaaGreatDoor
