import Derived.Test.YtkomjdjfknpinaaGreatDoorDkI3
import Derived.Lib.AppendZeros
import Derived.Test.YtkomjdjfknpinaaGreatDoorVarsC
set_option maxRecDepth 20000
set_option maxHeartbeats 16000000
namespace Go.Proofs.YtkomjdjfknpinaaGreatDoor
open Go.RowKit
set_option linter.unusedVariables false
set_option linter.unusedSimpArgs false
theorem zkg (p:Int × Int):∀ u ∈ pcs p,u.oneCell'=true:=by
 intro u hu
 simp [pcs] at hu
 rcases hu with rfl | rfl <;> rfl
theorem zb2 (S:TypeId) (hS:Tryz.prog.underlying S=some (.slice 93)) {o:Oper} {a:Act} {w:World} {K:Act->World->Prop} {Q:Exit->Act->World->Prop} (s x:Operand) (ho:o.op=.call { callee:=.builtin .append,args:=#[s,x],argTypes:=#[S,S] })
  (B:Nat) (v:Value) (ps qs:List (Int × Int)) (hs:a.eval s=v) (hown:OVp w B v ps) (xa:Addr) (c:Nat) (hx:a.eval x=.slice (some xa) qs.length c) (hX:Pls w (some xa) qs) (hb1:ps.length+qs.length<=1000000) (hbase:B<=w.heap.size)
  (h:∀ v' w',OVp w' B v' (ps++qs)->w.grownBy w' v.ownBlock->K (a.put o.dst v') w'):o.wp Tryz.prog a w K Q:=by
 obtain ⟨i0,hi,hz0',hz1',hz2⟩:=info_parts Tryz.infoPl;have hnews:∀ j u,(qs.flatMap pcs)[j]?=some u->w.cell? (xa.add j)=some u:=by
  intro j u hu
  have hj:j<qs.length*2:=by
   rcases Nat.lt_or_ge j (qs.length*2) with h | h
   ·exact h
   ·rw [List.getElem?_eq_none (by rw [z5u];exact h)] at hu;cases hu
  have hi1:j / 2<qs.length:=by omega
  obtain ⟨b,off,e,hb,hc⟩:=hX.2 (Nat.lt_of_le_of_lt (Nat.zero_le _) hi1);obtain rfl:xa=⟨b,off,none⟩:=by simpa using e
  have hg:=z58 qs (j / 2) hi1;have hl:=hc (j / 2) hi1;rw [z4j];have h2:j=j / 2*2\/j=j / 2*2+1:=by omega
  rcases h2 with h2 | h2
  ·rw [<-h2] at hg hl
   rw [hl.1,<-hg.1,hu]
  ·rw [<-h2] at hg
   rw [show off+j=off+j / 2*2+1 from by omega,hl.2,<-hg.2,hu]
 have hone:∀ u ∈ qs.flatMap pcs,u.oneCell'=true:=by
  intro u hu
  obtain ⟨e,_,he⟩:=List.mem_flatMap.1 hu;exact zkg e u he
 obtain ⟨v',w',hr,h2,h3,_,_⟩:=run_append_own_at (P:=Tryz.prog) w B S o.type 93 i0 (.agg #[.int .i64 0,.int .i64 0]) 2 16 hS hi hz0' hz1' hz2 rfl (by decide) v ps.length _ hown.1 xa qs.length c (qs.flatMap pcs) (z5u qs) hnews hone (by unfold maxLen;omega) (by omega) hbase
 unfold Oper.wp execOp
 simp only [ho,resolve,invoke,builtin,Sem.run_bind,Sem.run_pure,Result.andThen_ok,List.map_toArray,List.map_cons,List.map_nil,hs,hx,hr]
 refine h v' w' ⟨?_,fun q hq=>?_⟩ h3
 ·rw [List.length_append,List.flatMap_append]
  exact h2
 ·rcases List.mem_append.1 hq with hq | hq
  ·exact hown.2 q hq
  ·exact hX.1 q hq
theorem z2n (S:TypeId) (hS:Tryz.prog.underlying S=some (.slice 93)) {ops:Array Oper} {rest:List Oper} {o:Oper} {a:Act} {Q:Exit->Act->World->Prop} {w:World} (hgd:o.guard=none) (s x:Operand) (ho:o.op=.call { callee:=.builtin .append,args:=#[s,x],argTypes:=#[S,S] })
  (B:Nat) (v:Value) (ps qs:List (Int × Int)) (hs:a.eval s=v) (hown:OVp w B v ps) (xa:Addr) (c:Nat) (hx:a.eval x=.slice (some xa) qs.length c) (hX:Pls w (some xa) qs) (hb1:ps.length+qs.length<=1000000) (hbase:B<=w.heap.size)
  (h:∀ v' w',OVp w' B v' (ps++qs)->w.grownBy w' v.ownBlock->wpList Tryz.prog ops Q rest (a.put o.dst v') w'):wpList Tryz.prog ops Q (o :: rest) a w:=
 wpList_plain hgd fun _ hK=>zb2 S hS s x ho B v ps qs hs hown xa c hx hX hb1 hbase fun v' w' h1 h2=>hK _ _ (h v' w' h1 h2)
theorem z7z {w0 wr w1:World} {B:Nat} {v:Value} {ps:List (Int × Int)} (hbel:Below B w0 wr) (hB:B<=wr.heap.size) (h:OVp wr B v ps) (hg:wr.grownBy w1 v.ownBlock):Below B w0 w1:=
 hbel.grown hg hB (fun k hk=>(h.blk hk).1)
def gtP (ps:List (Int × Int)) (x:Int):Int × Int:=if zh ps then z0l ps x else dp
def gtB (ps:List (Int × Int)) (x:Int):Bool:=zh ps && !nwh (z0l ps x)
theorem z5x (ps:List (Int × Int)) (n i:Nat) (h:okT ps n=true) (hi:i<n):nwh (ps.getD i dp)=true\/rgt (ps.getD i dp)=true:=by
 have h1:=zdn ps n (i+1) h (by omega)
 simp only [okT,Bool.and_eq_true,z0o,Bool.or_eq_true] at h1
 rcases h1.2 with h2 | h2
 ·exact .inl h2
 ·exact .inr h2.1
theorem znk (ps:List (Int × Int)) (i:Nat) (h:zh ps=true) (hi:i<ps.length):(!nwh (ps.getD i dp))=decide (0<(ps.getD i dp).1):=by
 rcases z5x ps _ i (z4f ps h) hi with h1 | h1
 ·have h2:=h1
  unfold nwh at h2
  simp only [Bool.and_eq_true,beq_iff_eq] at h2
  rw [h1,h2.1]
  rfl
 ·have h2:=h1
  unfold rgt at h2
  simp only [decide_eq_true_eq] at h2
  have h3:nwh (ps.getD i dp)=false:=by
   unfold nwh
   simp only [Bool.and_eq_false_iff,beq_eq_false_iff_ne]
   omega
  rw [h3,decide_eq_true (by omega)]
  rfl
def lvL (ps:List (Int × Int)) (s:Int):List Int:=if zh ps then liv ps ps.length s else []
theorem zjq (ps:List (Int × Int)) (k:Nat) (h:zh ps=true) (hk:k<ps.length) (s:Int):liv ps (k+1) s=if (ps.getD k dp).1=s/\0<s then liv ps k s++[(k:Int)] else liv ps k s:=by
 have h1:=znk ps k h hk
 simp only [liv]
 rw [h1]
 by_cases hs:(ps.getD k dp).1=s/\0<s
 ·rw [if_pos hs,if_pos]
  rw [hs.1]
  simp [hs.2]
 ·rw [if_neg hs,if_neg]
  simp only [Bool.and_eq_true,decide_eq_true_eq,beq_iff_eq]
  rintro ⟨h2,h3⟩;exact hs ⟨h3,by omega⟩
theorem z8d (a:Option Addr) (cap:Nat) (ps:List (Int × Int)) (s:Int) (w:World) (hb:Pls w a ps) (hm:zh ps=true) (hs:-9223372036854775808<=s/\s<=9223372036854775807) :
  Calls Tryz.prog 48 #[.agg #[.slice a ps.length cap],.int .i64 s] w fun e w'=>(∃ a c,e=.returned (.slice a (liv ps ps.length s).length c)/\MinI w' w.heap.size w'.heap.size a c (liv ps ps.length s))/\Below w.heap.size w w':=by
 obtain ⟨i0,hi,hz0,hz1,hz2⟩:=info_parts Tryz.infoI64;have hln:=z19 ps hm;have HLS:Hid (∀ k,k<ps.length->liv ps (k+1) s=if (ps.getD k dp).1=s/\0<s then liv ps k s++[(k:Int)] else liv ps k s):=fun k hk=>zjq ps k hm hk s
 have HLN:Hid (∀ k,(liv ps k s).length<=k):=fun k=>z5y ps k s
 have HL0:Hid (liv ps 0 s=[]/\True):=⟨rfl,trivial⟩;have HB:Hid (Pls w a ps):=hb;have hzz:(w.alloc (Obj.cells #[.slice a ps.length cap] 43)).cell? ⟨w.heap.size,0,none⟩=some (.slice a ps.length cap):=by simp
 have hzs:w.heap.size+1=(w.alloc (Obj.cells #[.slice a ps.length cap] 43)).heap.size:=by simp
 have HW:Hid (Bw w (w.alloc (Obj.cells #[.slice a ps.length cap] 43))):=ba;have HZS:Hid (w.heap.size+1=(w.alloc (Obj.cells #[.slice a ps.length cap] 43)).heap.size/\True):=⟨hzs,trivial⟩;clear hb hm hzs;generalize hlen:ps.length=n at *;have HL:Hid (ps.length=n/\True):=⟨hlen,trivial⟩;clear hlen
 go_enter Tryz.func48,Tryz.ntmps48
 go_wp2
 generalize w.alloc (Obj.cells #[.slice a n cap] 43)=W at *
 go_loopw [5,6] (fun v i wr=>∃ (k:Nat) (va:Option Addr) (vc:Nat),k<=n/\i=.int .i64 k/\v=.slice va (liv ps k s).length vc/\OVI wr (w.heap.size+1) (.slice va (liv ps k s).length vc) (liv ps k s)/\Below (w.heap.size+1) W wr) (fun _ i _=>n-(intOf i).toNat)
 case atStart=>exact ⟨0,none,0,Nat.zero_le _,rfl,by rw [HL0.out.1];rfl,by rw [HL0.out.1];exact OVI.nil _ _,Below.refl _ _⟩
 case round=>
  obtain ⟨k,va,vc,hk,rfl,rfl,hov,hbel⟩:=hrel;have HR:Hid (Below (w.heap.size+1) W wr/\Bw w wr/\w.heap.size+1<=wr.heap.size):=⟨hbel,HW.out.trans (hbel.mono (by omega)),by rw [HZS.out.1];exact hbel.size⟩
  have p0:=keep hbel (by omega) hzz
  have HOV:Hid (OVI wr (w.heap.size+1) (.slice va (liv ps k s).length vc) (liv ps k s)):=hov;have hll:=HLN.out k;clear hbel hov
  by_cases hlt:k<n
  ·obtain ⟨b,off,rfl,hb1,hc1⟩:=HB.out.len_pos k (by rw [HL.out.1];exact hlt)
   have c0:=keep HR.out.2.1 hb1 (hc1 k (by rw [HL.out.1];exact hlt)).1
   have hls:=HLS.out k hlt;clear hc1;generalize (ps.getD k dp).1=x at *
   by_cases hx:x=s/\0<s
   ·rw [if_pos hx] at hls
    obtain ⟨rfl,hx2⟩:=hx;have HE:Hid (liv ps (k+1) x=liv ps k x++[(k:Int)]/\True):=⟨hls,trivial⟩;clear hls;generalize liv ps k x=ls at *;go_wp2_with (at_builtin;refine wpList_append_own_at _ rfl _ _ 29 rfl (w.heap.size+1) 3 i0 (.int .i64 0) 1 8 Tryz.underlying29 hi hz0 hz1 hz2 rfl (by decide) _ ls.length (ls.map (Value.int .i64)) rfl (HOV.out.1.alloc _) ⟨wr.heap.size,0,none⟩ 1 1 [.int .i64 k] rfl rfl (cell_one_new _ _ _) (ints_oneCell .i64 [(k:Int)]) (by unfold maxLen;omega) (by omega) (by have:=HR.out.2.2;simp;omega) ?_;intro v1 w1 hown1 hgrow1 hnil1 hloc1)
    have hov1:OVI w1 (w.heap.size+1) v1 (ls++[(k:Int)]):=⟨by rw [List.length_append,List.map_append];exact hown1,fun z hz=>by
     rcases List.mem_append.1 hz with hz | hz
     ·exact HOV.out.2 z hz
     ·simp at hz;omega⟩
    have hb1':Below (w.heap.size+1) W w1:=z0j HR.out.1 HR.out.2.2 HOV.out hgrow1;obtain ⟨va1,vc1,hv1⟩:=hov1.form;rw [<-HE.out.1] at hov1 hv1;subst hv1;have HN1:Hid (OVI w1 (w.heap.size+1) (.slice va1 (liv ps (k+1) x).length vc1) (liv ps (k+1) x)/\Below (w.heap.size+1) W w1):=⟨hov1,hb1'⟩;clear hown1 hgrow1 hnil1 hloc1 hov1 hb1' HOV;go_roundw
    case rel=>exact ⟨k+1,va1,vc1,by omega,by go_num,rfl,HN1.out.1,HN1.out.2⟩
    case measure=>simp [intOf];omega
   ·rw [if_neg hx] at hls
    have HE:Hid (Value.slice va (liv ps k s).length vc=.slice va (liv ps (k+1) s).length vc/\OVI wr (w.heap.size+1) (.slice va (liv ps (k+1) s).length vc) (liv ps (k+1) s)):=by rw [hls];exact ⟨rfl,HOV.out⟩
    clear hls;have key:¬x=s\/(x=s/\¬0<s):=by omega
    clear hx;rcases key with h | ⟨rfl,h⟩
    all_goals
     go_wp2
     go_roundw
     case rel=>exact ⟨k+1,va,vc,by omega,by go_num,HE.out.1,HE.out.2,HR.out.1⟩
     case measure=>simp [intOf];omega
  ·have hkn:k=n:=by omega
   subst hkn;obtain ⟨a2,c2,e2,hm2⟩:=HOV.out.mine;obtain ⟨rfl,-,rfl⟩:va=a2/\(liv ps k s).length=(liv ps k s).length/\vc=c2:=by simpa using e2
   have HF:Hid (MinI wr w.heap.size wr.heap.size va vc (liv ps k s)):=hm2.mono (by omega) nl
   clear hm2 e2;go_wp2;go_ret;exact ⟨⟨_,_,rfl,HF.out⟩,HR.out.2.1⟩
def frB (d:DkV) (s:Int):Bool:=!(d.cs.any (fun z=>z == s)) && (!(d.ms.any (fun p=>p.1 == s)) && !(d.vs.any (fun p=>p.1 == s)))
def frL (d:DkV):Nat->List Int
 | 0=>[]
 | k+1=>if frB d ((k+2:Nat):Int) then frL d k++[((k+2:Nat):Int)] else frL d k
theorem z3v (d:DkV) (k:Nat):(frL d k).length<=k:=by
 induction k with
 | zero=>simp [frL]
 | succ k ih=>
  simp only [frL]
  split
  ·simp;omega
  ·omega
theorem ze0 {cs:List Int} {s:Int}:cs.any (fun z=>z == s)=true↔∃ i,i<cs.length/\cs.getD i 0=s:=by
 rw [List.any_eq_true]
 constructor
 ·rintro ⟨z,hz,h⟩
  obtain ⟨i,hi,rfl⟩:=List.mem_iff_getElem.1 hz;exact ⟨i,hi,by simpa [List.getD_eq_getElem?_getD,List.getElem?_eq_getElem hi] using h⟩
 ·rintro ⟨i,hi,h⟩
  refine ⟨cs[i],List.getElem_mem hi,?_⟩
  simpa [List.getD_eq_getElem?_getD,List.getElem?_eq_getElem hi] using h
theorem zdy {ps:List (Int × Int)} {s:Int}:ps.any (fun p=>p.1 == s)=true↔∃ i,i<ps.length/\(ps.getD i dp).1=s:=by
 rw [List.any_eq_true]
 constructor
 ·rintro ⟨z,hz,h⟩
  obtain ⟨i,hi,rfl⟩:=List.mem_iff_getElem.1 hz;exact ⟨i,hi,by simpa [List.getD_eq_getElem?_getD,List.getElem?_eq_getElem hi] using h⟩
 ·rintro ⟨i,hi,h⟩
  refine ⟨ps[i],List.getElem_mem hi,?_⟩
  simpa [List.getD_eq_getElem?_getD,List.getElem?_eq_getElem hi] using h
theorem zfc {ps:List (Int × Int)} {s:Int} (hs:2<=s):(liv ps ps.length s).length=0↔ps.any (fun p=>p.1 == s)=false:=by
 rw [List.length_eq_zero_iff]
 constructor
 ·intro h
  rw [<-Bool.not_eq_true,zdy];rintro ⟨i,hi,h2⟩;have:(i:Int) ∈ liv ps ps.length s:=(z5w ps ps.length s i).2 ⟨i,hi,rfl,by
   unfold nwh;have h3:((ps.getD i dp).1 == 0)=false:=by rw [beq_eq_false_iff_ne];omega
   rw [h3];rfl,h2⟩
  rw [h] at this
  cases this
 ·intro h
  rw [<-Bool.not_eq_true,zdy] at h;rw [List.eq_nil_iff_forall_not_mem]
  intro z hz
  obtain ⟨i,hi,-,-,h2⟩:=(z5w ps ps.length s z).1 hz;exact h ⟨i,hi,h2⟩
theorem zg3 (d:DkV) (w:World) (hb:DkI w d) (hr:2<=d.ss.length/\d.ss.length<=1000) (h1:zh d.ms=true) (h2:zh d.vs=true) (hm:d.cs.length<=1048576) :
  Calls Tryz.prog 19 #[.agg #[.slice d.sa d.ss.length d.sc,.slice d.pa d.ps.length d.pc,.int .i64 d.E,.int .i64 d.O,.slice d.ma d.ms.length d.mc,.slice d.va d.vs.length d.vc,.slice d.ca d.cs.length d.cc,.int .i64 d.F,.int .i64 d.G,.slice d.oa d.os.length d.oc]] w fun e w'=>(∃ a c,e=.returned (.slice a (frL d (d.ss.length-2)).length c)/\MinI w' w.heap.size w'.heap.size a c (frL d (d.ss.length-2)))/\Below w.heap.size w w':=by
 obtain ⟨i0,hi,hz0,hz1,hz2⟩:=info_parts Tryz.infoI64;have HB:Hid (DkI w d/\zh d.ms=true/\zh d.vs=true):=⟨hb,h1,h2⟩;have HLN:Hid (∀ k,(frL d k).length<=k):=z3v d;have HX:Hid (Dk10 (w.alloc (Obj.cells #[.slice d.sa d.ss.length d.sc,.slice d.pa d.ps.length d.pc,.int .i64 d.E,.int .i64 d.O,.slice d.ma d.ms.length d.mc,.slice d.va d.vs.length d.vc,.slice d.ca d.cs.length d.cc,.int .i64 d.F,.int .i64 d.G,.slice d.oa d.os.length d.oc] 48)) w.heap.size d/\Bw w (w.alloc (Obj.cells #[.slice d.sa d.ss.length d.sc,.slice d.pa d.ps.length d.pc,.int .i64 d.E,.int .i64 d.O,.slice d.ma d.ms.length d.mc,.slice d.va d.vs.length d.vc,.slice d.ca d.cs.length d.cc,.int .i64 d.F,.int .i64 d.G,.slice d.oa d.os.length d.oc] 48))/\w.heap.size+1=((w.alloc (Obj.cells #[.slice d.sa d.ss.length d.sc,.slice d.pa d.ps.length d.pc,.int .i64 d.E,.int .i64 d.O,.slice d.ma d.ms.length d.mc,.slice d.va d.vs.length d.vc,.slice d.ca d.cs.length d.cc,.int .i64 d.F,.int .i64 d.G,.slice d.oa d.os.length d.oc] 48))).heap.size):=⟨Dk10.new w d 48,(Below.refl _ _).alloc nl _,by simp⟩
 clear hb h1 h2
 go_enter Tryz.func19,Tryz.ntmps19
 go_wp2
 generalize (w.alloc (Obj.cells #[.slice d.sa d.ss.length d.sc,.slice d.pa d.ps.length d.pc,.int .i64 d.E,.int .i64 d.O,.slice d.ma d.ms.length d.mc,.slice d.va d.vs.length d.vc,.slice d.ca d.cs.length d.cc,.int .i64 d.F,.int .i64 d.G,.slice d.oa d.os.length d.oc] 48))=W at *
 go_loopw [3,4] (fun v i wr=>∃ (k:Nat) (s:Int) (va:Option Addr) (vc:Nat),k+2<=d.ss.length/\s=((k+2:Nat):Int)/\i=.int .i64 s/\v=.slice va (frL d k).length vc/\OVI wr (w.heap.size+1) (.slice va (frL d k).length vc) (frL d k)/\Below (w.heap.size+1) W wr/\Dk10 wr w.heap.size d) (fun _ i _=>d.ss.length-(intOf i).toNat)
 case atStart=>exact ⟨0,2,none,0,hr.1,rfl,rfl,rfl,OVI.nil _ _,Below.refl _ _,HX.out.1⟩
 case round=>
  obtain ⟨k,s,va,vc,hk,hs,rfl,rfl,hov,hbel,hx⟩:=hrel;have HSE:Hid (s=((k+2:Nat):Int)/\True):=⟨hs,trivial⟩;have hs2:2<=s/\s<=1000:=by omega
  have HR:Hid (Below (w.heap.size+1) W wr/\Bw w wr/\w.heap.size+1<=wr.heap.size/\Dk10 wr w.heap.size d):=⟨hbel,HX.out.2.1.trans (hbel.mono (by omega)),by rw [HX.out.2.2];exact hbel.size,hx⟩
  have HOV:Hid (OVI wr (w.heap.size+1) (.slice va (frL d k).length vc) (frL d k)):=hov;obtain ⟨x0,x1,x2,x3,x4,x5,x6,x7,x8,x9,xl⟩:=hx;have hll:=HLN.out k;clear hbel hov hs
  by_cases hlt:s<(d.ss.length:Int)
  ·have H1:Calls Tryz.prog 46 #[.slice d.ca d.cs.length d.cc,.int .i64 s] wr (fun e w'=>e=.returned (.bool (d.cs.any (fun z=>z == s)))/\w'=wr):=(zac d.ca d.cc d.cs s wr (HB.out.1.chn.below HR.out.2.1 nl) hm).mono (fun e w' h=>⟨by
    rcases h.1 with ⟨h9,rfl⟩ | ⟨h9,rfl⟩
    ·rw [ze0.2 h9]
    ·rw [show d.cs.any (fun z=>z == s)=false from by rw [<-Bool.not_eq_true,ze0];rintro ⟨i,hi,e⟩;exact h9 i hi e],h.2⟩)
   have HL2:Hid (∀ W,Pls W d.ma d.ms->Calls Tryz.prog 48 #[.agg #[.slice d.ma d.ms.length d.mc],.int .i64 s] W (fun e w'=>(∃ a n c,e=.returned (.slice a n c)/\(n=0↔d.ms.any (fun p=>p.1 == s)=false)/\n<=1000)/\Bw W w')):=fun W h=>(z8d d.ma d.mc d.ms s W h HB.out.2.1 (by omega)).mono (fun e w' h=>by
    obtain ⟨⟨a,c,rfl,-⟩,hb⟩:=h;exact ⟨⟨a,_,c,rfl,zfc hs2.1,by have h3:=z5y d.ms d.ms.length s;have h4:=(z19 d.ms HB.out.2.1).2;omega⟩,hb⟩)
   have HL3:Hid (∀ W,Pls W d.va d.vs->Calls Tryz.prog 48 #[.agg #[.slice d.va d.vs.length d.vc],.int .i64 s] W (fun e w'=>(∃ a n c,e=.returned (.slice a n c)/\(n=0↔d.vs.any (fun p=>p.1 == s)=false)/\n<=1000)/\Bw W w')):=fun W h=>(z8d d.va d.vc d.vs s W h HB.out.2.2 (by omega)).mono (fun e w' h=>by
    obtain ⟨⟨a,c,rfl,-⟩,hb⟩:=h;exact ⟨⟨a,_,c,rfl,zfc hs2.1,by have h3:=z5y d.vs d.vs.length s;have h4:=(z19 d.vs HB.out.2.2).2;omega⟩,hb⟩)
   have HFL:Hid (frL d (k+1)=if !(d.cs.any (fun z=>z == s)) && (!(d.ms.any (fun p=>p.1 == s)) && !(d.vs.any (fun p=>p.1 == s))) then frL d k++[s] else frL d k):=by rw [HSE.out.1];rfl
   generalize d.cs.any (fun z=>z == s)=b1 at *
   generalize d.ms.any (fun p=>p.1 == s)=b2 at *
   generalize d.vs.any (fun p=>p.1 == s)=b3 at *
   have HNEXT:Hid (frL d (k+1)=frL d k->∀ W',Bw wr W'->∃ (k':Nat) (s':Int) (va':Option Addr) (vc':Nat),k'+2<=d.ss.length/\s'=((k'+2:Nat):Int)/\Value.int .i64 (s+1)=.int .i64 s'/\Value.slice va (frL d k).length vc=.slice va' (frL d k').length vc'/\OVI W' (w.heap.size+1) (.slice va' (frL d k').length vc') (frL d k')/\Below (w.heap.size+1) W W'/\Dk10 W' w.heap.size d):=fun he W' hb=>by
    have hs:=HSE.out.1;refine ⟨k+1,s+1,va,vc,by omega,by omega,rfl,by rw [he],by rw [he];exact HOV.out.below hb,HR.out.1.trans (hb.mono HR.out.2.2.1),HR.out.2.2.2.step hb⟩
   go_wp2_with fail
   refine H1.mono ?_;clear H1;rintro e w1 ⟨rfl,rfl⟩
   cases b1 with
   | true=>
    have HN:=HNEXT.out (by rw [HFL.out];rfl) _ (Below.refl _ _)
    have HN':Hid _:=HN;clear HN HNEXT HFL HL2 HL3;go_wp2;go_roundw
    case rel=>exact HN'.out
    case measure=>simp [intOf];omega
   | false=>
    have H2:=HL2.out _ (HB.out.1.map.below HR.out.2.1 nl);go_wp2_with fail
    refine H2.mono ?_;clear H2 HL2;rintro e w2 ⟨⟨a2,n2,c2,rfl,hn2,hl2⟩,hb2⟩
    cases b2 with
    | true=>
     have hn:¬n2=0:=fun h=>by have:=hn2.1 h;cases this
     have hne:((n2:Int) == 0)=false:=by rw [beq_eq_false_iff_ne];omega
     have HN':Hid _:=HNEXT.out (by rw [HFL.out];rfl) _ hb2
     clear HNEXT HFL HL3 hn2 hb2;go_wp2;go_roundw
     case rel=>exact HN'.out
     case measure=>simp [intOf];omega
    | false=>
     obtain rfl:n2=0:=hn2.2 rfl;obtain ⟨x0,x1,x2,x3,x4,x5,x6,x7,x8,x9,xl⟩:=HR.out.2.2.2.step hb2;have H3:=HL3.out w2 ((HB.out.1.sav.below HR.out.2.1 nl).below hb2 nl);have HB2:Hid _:=hb2;clear hn2 hb2 HL3;go_wp2_with fail
     refine H3.mono ?_;clear H3;rintro e w3 ⟨⟨a3,n3,c3,rfl,hn3,hl3⟩,hb3⟩;have HB3:Hid _:=HB2.out.trans (hb3.mono HB2.out.size)
     cases b3 with
     | true=>
      have hn:¬n3=0:=fun h=>by have:=hn3.1 h;cases this
      have hne:((n3:Int) == 0)=false:=by rw [beq_eq_false_iff_ne];omega
      have HN':Hid _:=HNEXT.out (by rw [HFL.out];rfl) _ HB3.out
      clear HNEXT HFL hn3 hb3;go_wp2;go_roundw
      case rel=>exact HN'.out
      case measure=>simp [intOf];omega
     | false=>
      obtain rfl:n3=0:=hn3.2 rfl;have HE:Hid (frL d (k+1)=frL d k++[s]/\True):=⟨by rw [HFL.out];rfl,trivial⟩
      have HOV3:Hid (OVI w3 (w.heap.size+1) (.slice va (frL d k).length vc) (frL d k)):=HOV.out.below HB3.out;have HR3:Hid (Below (w.heap.size+1) W w3/\w.heap.size+1<=w3.heap.size/\Dk10 w3 w.heap.size d):=⟨HR.out.1.trans (HB3.out.mono HR.out.2.2.1),by have:=HB3.out.size;have:=HR.out.2.2.1;omega,HR.out.2.2.2.step HB3.out⟩
      clear HNEXT HFL hn3 hb3 HOV;generalize frL d k=ls at *;go_wp2_with (at_builtin;refine wpList_append_own_at _ rfl _ _ 29 rfl (w.heap.size+1) 3 i0 (.int .i64 0) 1 8 Tryz.underlying29 hi hz0 hz1 hz2 rfl (by decide) _ ls.length (ls.map (Value.int .i64)) rfl (HOV3.out.1.alloc _) ⟨w3.heap.size,0,none⟩ 1 1 [.int .i64 s] rfl rfl (cell_one_new _ _ _) (ints_oneCell .i64 [s]) (by unfold maxLen;omega) (by omega) (by have:=HR3.out.2.1;simp;omega) ?_;intro v1 w4 hown1 hgrow1 hnil1 hloc1)
      have hov1:OVI w4 (w.heap.size+1) v1 (ls++[s]):=⟨by rw [List.length_append,List.map_append];exact hown1,fun z hz=>by
       rcases List.mem_append.1 hz with hz | hz
       ·exact HOV3.out.2 z hz
       ·simp at hz;omega⟩
      have hb1':Below (w.heap.size+1) W w4:=z0j HR3.out.1 HR3.out.2.1 HOV3.out hgrow1;have hb34:Below (w.heap.size+1) w3 w4:=z0j (Below.refl _ _) HR3.out.2.1 HOV3.out hgrow1;obtain ⟨va1,vc1,hv1⟩:=hov1.form;rw [<-HE.out.1] at hov1 hv1;subst hv1;have HN1:Hid (OVI w4 (w.heap.size+1) (.slice va1 (frL d (k+1)).length vc1) (frL d (k+1))/\Below (w.heap.size+1) W w4/\Dk10 w4 w.heap.size d):=⟨hov1,hb1',HR3.out.2.2.keep hb34 (by omega)⟩
      clear hown1 hgrow1 hnil1 hloc1 hov1 hb1' hb34 HOV3;go_roundw
      case rel=>exact ⟨k+1,s+1,va1,vc1,by have:=HSE.out.1;omega,by have:=HSE.out.1;omega,by go_num,rfl,HN1.out.1,HN1.out.2.1,HN1.out.2.2⟩
      case measure=>simp [intOf];omega
  ·have hkn:k=d.ss.length-2:=by have:=HSE.out.1;omega
   subst hkn;obtain ⟨a2,c2,e2,hm2⟩:=HOV.out.mine;obtain ⟨rfl,-,rfl⟩:va=a2/\(frL d (d.ss.length-2)).length=(frL d (d.ss.length-2)).length/\vc=c2:=by simpa using e2
   have HF:Hid (MinI wr w.heap.size wr.heap.size va vc (frL d (d.ss.length-2))):=hm2.mono (by omega) nl
   clear hm2 e2;go_wp2;go_ret;exact ⟨⟨_,_,rfl,HF.out⟩,HR.out.2.1⟩
theorem zhr (n:Nat) (w:World) (h0:0<n) (hn:n<=1000000) :
  Calls Tryz.prog 91 #[.slice none 0 0,.int .i64 n] w fun e w'=>(∃ c,e=.returned (.slice (some ⟨w.heap.size,0,none⟩) 0 c)/\OVp w' w.heap.size (.slice (some ⟨w.heap.size,0,none⟩) 0 c) [])/\Below w.heap.size w w':=by
 obtain ⟨i0,hi,hz0,hz1,hz2⟩:=info_parts Tryz.infoPl;have hG:=grownCap_ge w n 0 93;have hGm:grownCap w n 0 93<=maxLen:=grownCap_le_maxLen w n 0 93 (by unfold maxLen;omega)
 have hrun:∀ ty,(Builtin.append_ #[41,3] ty #[.slice none 0 0,.int .i64 n]).run Tryz.prog w=.ok (.slice (some ⟨w.heap.size,0,none⟩) n (grownCap w n 0 93)) (w.drew.alloc (.cells (Builtin.zeroCells (Value.agg #[.int .i64 0,.int .i64 0]).cells n++Builtin.zeroCells (Value.agg #[.int .i64 0,.int .i64 0]).cells (grownCap w n 0 93-n)) 93)):=fun ty=>
  Lib.run_append_nil_zeros w 41 3 ty 93 i0 _ .i64 .i64 Tryz.underlying41 Tryz.underlying3 hi hz0 n h0 (by omega) (by omega) (by rw [hz2];omega)
 have HOV:Hid (OVp (w.drew.alloc (.cells (Builtin.zeroCells (Value.agg #[.int .i64 0,.int .i64 0]).cells n++Builtin.zeroCells (Value.agg #[.int .i64 0,.int .i64 0]).cells (grownCap w n 0 93-n)) 93)) w.heap.size (.slice (some ⟨w.heap.size,0,none⟩) 0 (grownCap w n 0 93)) []):=
  ⟨⟨by simp,.inr ⟨w.heap.size,_,_,rfl,Nat.le_refl _,heap_alloc_new w.drew _,Nat.zero_le _,hGm,by
   simp only [Array.size_append,size_zeroCells,Value.cells]
   simp
   omega,by simp⟩⟩,by simp⟩
 have HBL:Hid (Bw w (w.drew.alloc (.cells (Builtin.zeroCells (Value.agg #[.int .i64 0,.int .i64 0]).cells n++Builtin.zeroCells (Value.agg #[.int .i64 0,.int .i64 0]).cells (grownCap w n 0 93-n)) 93))):=(Below.refl _ _).drew.alloc nl _;generalize grownCap w n 0 93=G at *;generalize (w.drew.alloc (.cells (Builtin.zeroCells (Value.agg #[.int .i64 0,.int .i64 0]).cells n++Builtin.zeroCells (Value.agg #[.int .i64 0,.int .i64 0]).cells (G-n)) 93))=W at *
 have hG63:G<=9223372036854775807:=by unfold maxLen at hGm;omega
 have hn1:¬((n:Int)<0):=by omega
 have hn2:(n:Int) > 0:=by omega
 have hG0:¬G=0:=by omega
 clear hi hz0 hz1 hz2 hGm
 go_enter Tryz.func91,Tryz.ntmps91
 go_wp2_with (at_builtin;refine Lib.wpList_append_run _ rfl _ _ _ _ rfl _ _ rfl rfl _ _ (hrun _) ?_)
 go_ret;exact ⟨⟨G,rfl,HOV.out⟩,HBL.out⟩
theorem zcu (g:Nat) (xa ya:Addr) (xc yc:Nat) (ps qs:List (Int × Int)) (w:World) (hg:g<w.heap.size) (hc0:w.cell? ⟨g,0,none⟩=some (.slice (some xa) ps.length xc)) (hc1:w.cell? ⟨g,1,none⟩=some (.slice (some ya) qs.length yc)) (hx:Pls w (some xa) ps) (hy:Pls w (some ya) qs) (h1:0<ps.length/\ps.length<=1000) (h2:0<qs.length/\qs.length<=1000) :
  Calls Tryz.prog 61 #[.slice (some ⟨g,0,none⟩) 2 2] w fun e w'=>(∃ a c,e=.returned (.slice a (ps++qs).length c)/\OVp w' w.heap.size (.slice a (ps++qs).length c) (ps++qs))/\Below w.heap.size w w':=by
 obtain ⟨N,hN⟩:∃ N:Nat,N=ps.length+qs.length:=⟨_,rfl⟩;have HG:=zhr N w (by omega) (by omega)
 have HN:Hid (N=ps.length+qs.length/\True):=⟨hN,trivial⟩;have hN2:(ps.length:Int)+(qs.length:Int)=(N:Int):=by omega
 have HN2:Hid ((ps.length:Int)+(qs.length:Int)=(N:Int)/\True):=⟨hN2,trivial⟩;have HX:Hid (Pls w (some xa) ps/\Pls w (some ya) qs):=⟨hx,hy⟩;have HL:Hid ((ps++qs).length=N/\True):=⟨by rw [List.length_append];omega,trivial⟩
 have HLP:Hid (ps.length+qs.length<=1000000):=(by omega:ps.length+qs.length<=1000000)
 rw [HL.out.1];have hNb:N<=2000:=by omega
 clear hN hx hy hN2;generalize hp:ps.length=n1 at *;generalize hq:qs.length=n2 at *;have HP:Hid (ps.length=n1/\qs.length=n2):=⟨hp,hq⟩;clear hp hq
 go_enter Tryz.func61,Tryz.ntmps61
 go_wp2
 go_loopw [3,11] (fun s i wr=>w=wr/\((i=.int .i64 0/\s=.int .i64 0)\/(i=.int .i64 1/\s=.int .i64 (n1:Int))\/(i=.int .i64 2/\s=.int .i64 (N:Int)))) (fun _ i _=>2-(intOf i).toNat)
 case atStart=>exact ⟨rfl,.inl ⟨rfl,rfl⟩⟩
 case round=>
  obtain ⟨rfl,⟨rfl,rfl⟩ | ⟨rfl,rfl⟩ | ⟨rfl,rfl⟩⟩:=hrel
  ·go_wp2
   go_roundw
   case rel=>exact ⟨trivial,.inr (.inl ⟨by go_num,by go_num⟩)⟩
   case measure=>simp [intOf]
  ·have hNN:=HN2.out.1
   have hn0:¬((n1:Int)+(n2:Int)<0):=by omega
   clear hNN;go_wp2;go_roundw
   case rel=>exact ⟨trivial,.inr (.inr ⟨by go_num,by rw [<-HN2.out.1]⟩)⟩
   case measure=>simp [intOf]
  ·go_wp2_with fail
   refine HG.mono ?_;clear HG;rintro e w1 ⟨⟨c,rfl,hov⟩,hb1⟩;have d0:=keep hb1 hg hc0;have d1:=keep hb1 hg hc1;have HO:Hid (OVp w1 w.heap.size (.slice (some ⟨w.heap.size,0,none⟩) 0 c) []/\Bw w w1):=⟨hov,hb1⟩;clear hov;go_wp2
   go_loopw [6,27] (fun v i wr=>Below w.heap.size w wr/\∃ a c',((i=.int .i64 0/\v=.slice a 0 c'/\OVp wr w.heap.size (.slice a 0 c') [])\/(i=.int .i64 1/\v=.slice a n1 c'/\OVp wr w.heap.size (.slice a n1 c') ps)\/(i=.int .i64 2/\v=.slice a N c'/\OVp wr w.heap.size (.slice a N c') (ps++qs)))) (fun _ i _=>2-(intOf i).toNat)
   case atStart=>exact ⟨HO.out.2,_,_,.inl ⟨rfl,rfl,HO.out.1⟩⟩
   case round=>
    obtain ⟨hbel,a,c',h⟩:=hrel;have HR:Hid (Bw w wr):=hbel;have e0:=keep hbel hg hc0;have e1:=keep hbel hg hc1;have HXY:Hid (Pls wr (some xa) ps/\Pls wr (some ya) qs):=⟨HX.out.1.below hbel nl,HX.out.2.below hbel nl⟩;clear hbel d0 d1 hc0 hc1;rcases h with ⟨rfl,rfl,hov⟩ | ⟨rfl,rfl,hov⟩ | ⟨rfl,rfl,hov⟩
    ·have HOV:Hid (OVp wr w.heap.size (.slice a 0 c') []):=hov
     clear hov;go_wp2_with (at_builtin;(refine z2n 41 Tryz.underlying41 rfl (.tmp 31) (.tmp 32) rfl w.heap.size (.slice a 0 c') [] ps rfl HOV.out xa xc (by rw [HP.out.1];rfl) HXY.out.1 (by have:=HLP.out;have:=HP.out;simp;omega) HR.out.size ?_;intro v1 w2 hov1 hgr1;have HB1:Hid (Below w.heap.size w w2):=z7z HR.out HR.out.size HOV.out hgr1;obtain ⟨a1,c1,hv1⟩:=hov1.form;subst hv1;rw [List.nil_append,HP.out.1] at hov1;have HV1:Hid (OVp w2 w.heap.size (.slice a1 n1 c1) ps):=hov1;rw [List.nil_append,HP.out.1];clear hov1 hgr1))
     go_roundw
     case rel=>exact ⟨HB1.out,_,_,.inr (.inl ⟨by go_num,rfl,HV1.out⟩)⟩
     case measure=>simp [intOf]
    ·have HOV:Hid (OVp wr w.heap.size (.slice a n1 c') ps):=hov
     clear hov;go_wp2_with (at_builtin;(refine z2n 41 Tryz.underlying41 rfl (.tmp 31) (.tmp 32) rfl w.heap.size (.slice a n1 c') ps qs rfl HOV.out ya yc (by rw [HP.out.2];rfl) HXY.out.2 (by have:=HLP.out;have:=HP.out;omega) HR.out.size ?_;intro v1 w2 hov1 hgr1;have HB1:Hid (Below w.heap.size w w2):=z7z HR.out HR.out.size HOV.out hgr1;obtain ⟨a1,c1,hv1⟩:=hov1.form;subst hv1;rw [HL.out.1] at hov1;have HV1:Hid (OVp w2 w.heap.size (.slice a1 N c1) (ps++qs)):=hov1;rw [HL.out.1];clear hov1 hgr1))
     go_roundw
     case rel=>exact ⟨HB1.out,_,_,.inr (.inr ⟨by go_num,rfl,HV1.out⟩)⟩
     case measure=>simp [intOf]
    ·have HOV:Hid (OVp wr w.heap.size (.slice a N c') (ps++qs)):=hov
     clear hov;go_wp2;go_ret;exact ⟨⟨_,_,rfl,HOV.out⟩,HR.out⟩
def ThF (W:World) (X:Nat) (P:Nat->Prop):Prop:=X<W.heap.size/\∀ i:Nat,i<24->W.frozen? ⟨X,i,none⟩=false/\∃ t,W.cell? ⟨X,i,none⟩=some (.bool t)/\(t=true↔P i)
theorem ThF.keep {W W':World} {X B:Nat} {P:Nat->Prop} (h:ThF W X P) (hb:Below B W W') (hX:X<B):ThF W' X P:=
 ⟨Nat.lt_of_lt_of_le h.1 hb.size,fun i hi=>⟨(hb.frozen (p:=⟨X,i,none⟩) hX).trans (h.2 i hi).1,by
  obtain ⟨t,h1,h2⟩:=(h.2 i hi).2;exact ⟨t,kp hb hX h1,h2⟩⟩⟩
theorem ThF.imp {W:World} {X:Nat} {P Q:Nat->Prop} (h:ThF W X P) (hq:∀ i,i<24->(P i↔Q i)):ThF W X Q:=
 ⟨h.1,fun i hi=>⟨(h.2 i hi).1,by
  obtain ⟨t,h1,h2⟩:=(h.2 i hi).2;exact ⟨t,h1,h2.trans (hq i hi)⟩⟩⟩
theorem ThF.put {W:World} {X q:Nat} {P:Nat->Prop} (h:ThF W X P) (hq24:q<24):ThF (W.setCell ⟨X,q,none⟩ (.bool true)) X (fun i=>P i\/i=q):=by
 refine ⟨by simpa using h.1,fun i hi=>⟨by have:=(h.2 i hi).1;simpa using this,?_⟩⟩
 obtain ⟨t,h1,h2⟩:=(h.2 i hi).2
 by_cases e:i=q
 ·subst e
  exact ⟨true,World.cell?_setCell_same W _ _ h1,by simp⟩
 ·exact ⟨t,(World.cell?_setCell_other W _ _ _ (by simp <;> omega)).trans h1,h2.trans ⟨.inl,fun h=>h.elim id (fun h=>absurd h e)⟩⟩
theorem ThF.new (W:World) (T:TypeId):ThF (W.alloc (Obj.cells #[.bool false,.bool false,.bool false,.bool false,.bool false,.bool false,.bool false,.bool false,.bool false,.bool false,.bool false,.bool false,.bool false,.bool false,.bool false,.bool false,.bool false,.bool false,.bool false,.bool false,.bool false,.bool false,.bool false,.bool false] T)) W.heap.size (fun _=>False):=by
 refine ⟨by simp,fun i hi=>⟨by simp,false,?_,by simp⟩⟩
 have h:i=0\/i=1\/i=2\/i=3\/i=4\/i=5\/i=6\/i=7\/i=8\/i=9\/i=10\/i=11\/i=12\/i=13\/i=14\/i=15\/i=16\/i=17\/i=18\/i=19\/i=20\/i=21\/i=22\/i=23:=by omega
 rcases h with rfl | rfl | rfl | rfl | rfl | rfl | rfl | rfl | rfl | rfl | rfl | rfl | rfl | rfl | rfl | rfl | rfl | rfl | rfl | rfl | rfl | rfl | rfl | rfl <;> simp
def tkC (cs:List Int) (k i:Nat):Prop:=∃ j,j<k/\cs.getD j 0=(i:Int)
def tkP (cs:List Int) (ps:List (Int × Int)) (k i:Nat):Prop:=tkC cs cs.length i\/∃ j,j<k/\(ps.getD j dp).1=(i:Int)
theorem zlf (cs:List Int) (i:Nat):False↔tkC cs 0 i:=⟨False.elim,fun ⟨j,hj,_⟩=>by omega⟩
theorem zli {cs:List Int} {k q:Nat} (hq:cs.getD k 0=(q:Int)) (i:Nat):(tkC cs k i\/i=q)↔tkC cs (k+1) i:=by
 unfold tkC
 constructor
 ·rintro (⟨j,h1,h2⟩ | rfl)
  ·exact ⟨j,by omega,h2⟩
  ·exact ⟨k,by omega,hq⟩
 ·rintro ⟨j,h1,h2⟩
  by_cases e:j=k
  ·subst e
   rw [hq] at h2;exact .inr (by omega)
  ·exact .inl ⟨j,by omega,h2⟩
theorem zkh (cs:List Int) (ps:List (Int × Int)) (i:Nat):tkC cs cs.length i↔tkP cs ps 0 i:=⟨.inl,fun h=>h.elim id (fun ⟨j,hj,_⟩=>by omega)⟩
theorem zju {cs:List Int} {ps:List (Int × Int)} {k q:Nat} (hq:(ps.getD k dp).1=(q:Int)) (i:Nat):(tkP cs ps k i\/i=q)↔tkP cs ps (k+1) i:=by
 unfold tkP
 constructor
 ·rintro ((h | ⟨j,h1,h2⟩) | rfl)
  ·exact .inl h
  ·exact .inr ⟨j,by omega,h2⟩
  ·exact .inr ⟨k,by omega,hq⟩
 ·rintro (h | ⟨j,h1,h2⟩)
  ·exact .inl (.inl h)
  ·by_cases e:j=k
   ·subst e
    rw [hq] at h2;exact .inr (by omega)
   ·exact .inl (.inr ⟨j,by omega,h2⟩)
theorem z4d {ps qs:List (Int × Int)} {j:Nat}:(ps++qs).getD j dp=if j<ps.length then ps.getD j dp else qs.getD (j-ps.length) dp:=by
 simp only [List.getD_eq_getElem?_getD]
 split
 ·rw [List.getElem?_append_left (by assumption)]
 ·rw [List.getElem?_append_right (by omega)]
theorem zo0 (d:DkV) (i:Nat) {t:Bool} (h:t=true↔tkP d.cs (d.ms++d.vs) (d.ms++d.vs).length i):frB d (i:Int)=!t:=by
 have h1:t=(d.cs.any (fun z=>z == (i:Int)) || (d.ms.any (fun p=>p.1 == (i:Int)) || d.vs.any (fun p=>p.1 == (i:Int)))):=by
  rw [Bool.eq_iff_iff,h]
  simp only [Bool.or_eq_true,ze0,zdy]
  unfold tkP tkC
  constructor
  ·rintro (h | ⟨j,h1,h2⟩)
   ·exact .inl h
   ·rw [z4d] at h2
    rw [List.length_append] at h1
    split at h2
    ·exact .inr (.inl ⟨j,by assumption,h2⟩)
    ·exact .inr (.inr ⟨j-d.ms.length,by omega,h2⟩)
  ·rintro (h | ⟨j,h1,h2⟩ | ⟨j,h1,h2⟩)
   ·exact .inl h
   ·exact .inr ⟨j,by rw [List.length_append];omega,by rw [z4d,if_pos h1];exact h2⟩
   ·exact .inr ⟨d.ms.length+j,by rw [List.length_append];omega,by rw [z4d,if_neg (by omega),Nat.add_sub_cancel_left];exact h2⟩
 rw [h1];unfold frB
 cases d.cs.any (fun z=>z == (i:Int)) <;> cases d.ms.any (fun p=>p.1 == (i:Int)) <;> cases d.vs.any (fun p=>p.1 == (i:Int)) <;> rfl
theorem zfr {ps:List (Int × Int)} (h:zh ps=true) (i:Nat) (hi:i<ps.length):0<=(ps.getD i dp).1/\(ps.getD i dp).1<24:=by
 rcases z5x ps _ i (z4f ps h) hi with h1 | h1
 ·unfold nwh at h1
  simp only [Bool.and_eq_true,beq_iff_eq] at h1
  omega
 ·unfold rgt at h1
  have h2:=of_decide_eq_true h1
  omega
theorem zla (d:DkV) (w:World) (hb:DkI w d) (hr:2<=d.ss.length/\d.ss.length<=24) (h1:zh d.ms=true) (h2:zh d.vs=true) (hch:chK d.cs d.ss.length d.cs.length) (hm:d.cs.length<=1048576) :
  Calls Tryz.prog 27 #[.agg #[.slice d.sa d.ss.length d.sc,.slice d.pa d.ps.length d.pc,.int .i64 d.E,.int .i64 d.O,.slice d.ma d.ms.length d.mc,.slice d.va d.vs.length d.vc,.slice d.ca d.cs.length d.cc,.int .i64 d.F,.int .i64 d.G,.slice d.oa d.os.length d.oc]] w fun e w'=>(∃ a c,e=.returned (.slice a (frL d (d.ss.length-2)).length c)/\MinI w' w.heap.size w'.heap.size a c (frL d (d.ss.length-2)))/\Below w.heap.size w w':=by
 obtain ⟨i0,hi,hz0,hz1,hz2⟩:=info_parts Tryz.infoI64;have HB:Hid (DkI w d/\zh d.ms=true/\zh d.vs=true/\chK d.cs d.ss.length d.cs.length):=⟨hb,h1,h2,hch⟩;have HLN:Hid (∀ k,(frL d k).length<=k):=z3v d;clear hb h1 h2 hch;have hw:Below w.heap.size w (w.alloc (Obj.cells #[.slice d.sa d.ss.length d.sc,.slice d.pa d.ps.length d.pc,.int .i64 d.E,.int .i64 d.O,.slice d.ma d.ms.length d.mc,.slice d.va d.vs.length d.vc,.slice d.ca d.cs.length d.cc,.int .i64 d.F,.int .i64 d.G,.slice d.oa d.os.length d.oc] 48)):=ba
 have hx:=(Dk10.new w d 48).alloc (Obj.cells #[.bool false,.bool false,.bool false,.bool false,.bool false,.bool false,.bool false,.bool false,.bool false,.bool false,.bool false,.bool false,.bool false,.bool false,.bool false,.bool false,.bool false,.bool false,.bool false,.bool false,.bool false,.bool false,.bool false,.bool false] 101);have hT0:=ThF.new (w.alloc (Obj.cells #[.slice d.sa d.ss.length d.sc,.slice d.pa d.ps.length d.pc,.int .i64 d.E,.int .i64 d.O,.slice d.ma d.ms.length d.mc,.slice d.va d.vs.length d.vc,.slice d.ca d.cs.length d.cc,.int .i64 d.F,.int .i64 d.G,.slice d.oa d.os.length d.oc] 48)) 101
 have HW:Hid (Below w.heap.size w ((w.alloc (Obj.cells #[.slice d.sa d.ss.length d.sc,.slice d.pa d.ps.length d.pc,.int .i64 d.E,.int .i64 d.O,.slice d.ma d.ms.length d.mc,.slice d.va d.vs.length d.vc,.slice d.ca d.cs.length d.cc,.int .i64 d.F,.int .i64 d.G,.slice d.oa d.os.length d.oc] 48)).alloc (Obj.cells #[.bool false,.bool false,.bool false,.bool false,.bool false,.bool false,.bool false,.bool false,.bool false,.bool false,.bool false,.bool false,.bool false,.bool false,.bool false,.bool false,.bool false,.bool false,.bool false,.bool false,.bool false,.bool false,.bool false,.bool false] 101))/\w.heap.size+1<(((w.alloc (Obj.cells #[.slice d.sa d.ss.length d.sc,.slice d.pa d.ps.length d.pc,.int .i64 d.E,.int .i64 d.O,.slice d.ma d.ms.length d.mc,.slice d.va d.vs.length d.vc,.slice d.ca d.cs.length d.cc,.int .i64 d.F,.int .i64 d.G,.slice d.oa d.os.length d.oc] 48)).alloc (Obj.cells #[.bool false,.bool false,.bool false,.bool false,.bool false,.bool false,.bool false,.bool false,.bool false,.bool false,.bool false,.bool false,.bool false,.bool false,.bool false,.bool false,.bool false,.bool false,.bool false,.bool false,.bool false,.bool false,.bool false,.bool false] 101))).heap.size):=⟨hw.alloc (by simp) _,by simp⟩
 simp only [World.size_alloc] at hT0
 have HT0:Hid _:=(⟨hT0,hx⟩:_/\_);obtain ⟨x0,x1,x2,x3,x4,x5,x6,x7,x8,x9,xl⟩:=hx;clear hT0 hw
 go_enter Tryz.func27,Tryz.ntmps27
 go_wp2
 generalize ((w.alloc (Obj.cells #[.slice d.sa d.ss.length d.sc,.slice d.pa d.ps.length d.pc,.int .i64 d.E,.int .i64 d.O,.slice d.ma d.ms.length d.mc,.slice d.va d.vs.length d.vc,.slice d.ca d.cs.length d.cc,.int .i64 d.F,.int .i64 d.G,.slice d.oa d.os.length d.oc] 48)).alloc (Obj.cells #[.bool false,.bool false,.bool false,.bool false,.bool false,.bool false,.bool false,.bool false,.bool false,.bool false,.bool false,.bool false,.bool false,.bool false,.bool false,.bool false,.bool false,.bool false,.bool false,.bool false,.bool false,.bool false,.bool false,.bool false] 101))=W0 at *
 go_loopw [13] (fun i wr=>∃ k:Nat,k<=d.cs.length/\i=.int .i64 k/\ThF wr (w.heap.size+1) (tkC d.cs k)/\Dk10 wr w.heap.size d/\Below w.heap.size w wr) (fun i _=>d.cs.length-(intOf i).toNat)
 case atStart=>exact ⟨0,Nat.zero_le _,rfl,HT0.out.1.imp (fun i _=>zlf _ i),HT0.out.2,HW.out.1⟩
 case round=>
  clear HT0 HW x0 x1 x2 x3 x4 x5 x6 x7 x8 x9 xl;obtain ⟨k,hk,rfl,hth,hx,hbel⟩:=hrel;have HAP:Hid (ThF wr (w.heap.size+1) (tkC d.cs k)/\Dk10 wr w.heap.size d/\Below w.heap.size w wr):=⟨hth,hx,hbel⟩;obtain ⟨x0,x1,x2,x3,x4,x5,x6,x7,x8,x9,xl⟩:=hx;clear hth
  by_cases hlt:k<d.cs.length
  ·obtain ⟨b,off,hca,hbl,hc⟩:=(HB.out.1.chn.below hbel nl).2 (by omega)
   have c0:=hc k hlt;have hyr:=(HB.out.2.2.2 k hlt).1;obtain ⟨y,hy⟩:∃ y,d.cs.getD k 0=y:=⟨_,rfl⟩;rw [hy] at c0 hyr;obtain ⟨q,rfl⟩:=Int.eq_ofNat_of_zero_le (show 0<=y by omega)
   have HYE:Hid (d.cs.getD k 0=(q:Int)/\True):=⟨hy,trivial⟩;have hq24:q<24:=by omega
   have hqi:(0:Int)<=(q:Int)/\(q:Int)<24:=by omega
   rw [hca] at x6 ⊢;obtain ⟨hfz,t,hct,-⟩:=HAP.out.1.2 q hq24;have hon:Only (fun x=>x=w.heap.size+1) wr (wr.setCell ⟨w.heap.size+1,q,none⟩ (.bool true)):=(Only.refl (fun x=>x=w.heap.size+1) wr).setCell (p:=⟨w.heap.size+1,q,none⟩) (.inl rfl) _
   have HN:Hid (ThF (wr.setCell ⟨w.heap.size+1,q,none⟩ (.bool true)) (w.heap.size+1) (tkC d.cs (k+1))/\Dk10 (wr.setCell ⟨w.heap.size+1,q,none⟩ (.bool true)) w.heap.size d/\Below w.heap.size w (wr.setCell ⟨w.heap.size+1,q,none⟩ (.bool true))):=
    ⟨(HAP.out.1.put hq24).imp (fun i _=>zli HYE.out.1 i),HAP.out.2.1.keep (hon.below (B:=w.heap.size+1) (by have:=HAP.out.1.1;omega) (fun k hk=>by omega)) (by omega),HAP.out.2.2.setCell (by simp) _⟩
   clear hc hy hon hbel hyr;go_wp2;go_roundw
   case rel=>exact ⟨k+1,by omega,by go_num,HN.out.1,HN.out.2.1,HN.out.2.2⟩
   case measure=>simp [intOf];omega
  ·have hkn:k=d.cs.length:=by omega
   subst hkn;have hl1:=z19 d.ms HB.out.2.1;have hl2:=z19 d.vs HB.out.2.2.1;obtain ⟨bma,oa',hma,hmb,-⟩:=(HB.out.1.map.below hbel nl).2 (by omega)
   obtain ⟨bv,ov',hva,hvb,-⟩:=(HB.out.1.sav.below hbel nl).2 (by omega)
   have hba:Below wr.heap.size wr (wr.alloc (Obj.cells #[.slice d.ma d.ms.length d.mc,.slice d.va d.vs.length d.vc] 41)):=ba;have HCC:=zcu wr.heap.size ⟨bma,oa',none⟩ ⟨bv,ov',none⟩ d.mc d.vc d.ms d.vs (wr.alloc (Obj.cells #[.slice d.ma d.ms.length d.mc,.slice d.va d.vs.length d.vc] 41)) (by simp) (by rw [<-hma];simp) (by rw [<-hva];simp) (by rw [<-hma];exact (HB.out.1.map.below hbel nl).below hba nl) (by rw [<-hva];exact (HB.out.1.sav.below hbel nl).below hba nl) (by omega) (by omega)
   have HAP1:Hid (ThF (wr.alloc (Obj.cells #[.slice d.ma d.ms.length d.mc,.slice d.va d.vs.length d.vc] 41)) (w.heap.size+1) (tkC d.cs d.cs.length)/\Dk10 (wr.alloc (Obj.cells #[.slice d.ma d.ms.length d.mc,.slice d.va d.vs.length d.vc] 41)) w.heap.size d/\Below w.heap.size w (wr.alloc (Obj.cells #[.slice d.ma d.ms.length d.mc,.slice d.va d.vs.length d.vc] 41))):=⟨HAP.out.1.keep hba HAP.out.1.1,HAP.out.2.1.step hba,HAP.out.2.2.trans (hba.mono HAP.out.2.2.size)⟩
   clear hma hva hmb hvb hba hbel hlt HAP;go_wp2_with fail
   generalize (wr.alloc (Obj.cells #[.slice d.ma d.ms.length d.mc,.slice d.va d.vs.length d.vc] 41))=W1 at *;refine HCC.mono ?_;clear HCC;rintro e w1 ⟨⟨qa,qc,rfl,hov⟩,hb1⟩;have HC1:Hid (OVp w1 W1.heap.size (.slice qa (d.ms++d.vs).length qc) (d.ms++d.vs)/\ThF w1 (w.heap.size+1) (tkP d.cs (d.ms++d.vs) 0)/\Dk10 w1 w.heap.size d/\Below w.heap.size w w1):=⟨hov,(HAP1.out.1.keep hb1 HAP1.out.1.1).imp (fun i _=>zkh _ _ i),HAP1.out.2.1.step hb1,HAP1.out.2.2.trans (hb1.mono HAP1.out.2.2.size)⟩
   have hY:w.heap.size+1<W1.heap.size:=HAP1.out.1.1;have HRG:Hid (∀ j,j<(d.ms++d.vs).length->0<=((d.ms++d.vs).getD j dp).1/\((d.ms++d.vs).getD j dp).1<24):=fun j hj=>by
    rw [z4d];rw [List.length_append] at hj
    split
    ·exact zfr HB.out.2.1 j (by assumption)
    ·exact zfr HB.out.2.2.1 _ (by omega)
   have HFT:Hid (∀ (i:Nat) (t:Bool),(t=true↔tkP d.cs (d.ms++d.vs) (d.ms++d.vs).length i)->frB d (i:Int)=!t):=fun i t h=>zo0 d i h
   have hLb:(d.ms++d.vs).length<=1000:=by rw [List.length_append];omega
   clear hov hb1 HAP1 x0 x1 x2 x3 x4 x5 x6 x7 x8 x9 xl;generalize d.ms++d.vs=PQ at *;generalize W1.heap.size=Y at *;have HPL:Hid (PQ.length=PQ.length/\True):=⟨rfl,trivial⟩;generalize hLL:PQ.length=L at *;have HL:Hid (PQ.length=L/\True):=⟨hLL,trivial⟩;clear hLL HPL;go_wp2
   go_loopw [29] (fun i W=>∃ k:Nat,k<=L/\i=.int .i64 k/\ThF W (w.heap.size+1) (tkP d.cs PQ k)/\OVp W Y (.slice qa L qc) PQ/\Dk10 W w.heap.size d/\Below w.heap.size w W) (fun i _=>L-(intOf i).toNat)
   case atStart=>exact ⟨0,Nat.zero_le _,rfl,HC1.out.2.1,HC1.out.1,HC1.out.2.2.1,HC1.out.2.2.2⟩
   case round=>
    clear HC1;obtain ⟨k,hk,rfl,hth,hov,hx,hbel⟩:=hrel;have HAP:Hid (ThF wr (w.heap.size+1) (tkP d.cs PQ k)/\OVp wr Y (.slice qa L qc) PQ/\Dk10 wr w.heap.size d/\Below w.heap.size w wr):=⟨hth,hov,hx,hbel⟩;obtain ⟨x0,x1,x2,x3,x4,x5,x6,x7,x8,x9,xl⟩:=hx;clear hth hbel
    by_cases hlt:k<L
    ·obtain ⟨b,off,rfl,hbl,hc⟩:=hov.pls.len_pos k (by rw [HL.out.1];exact hlt)
     obtain ⟨c0,c1⟩:=hc k (by rw [HL.out.1];exact hlt)
     have hyr:=HRG.out k hlt;obtain ⟨y,hy⟩:∃ y,(PQ.getD k dp).1=y:=⟨_,rfl⟩;rw [hy] at c0 hyr;generalize (PQ.getD k dp).2=z at *;obtain ⟨q,rfl⟩:=Int.eq_ofNat_of_zero_le (show 0<=y by omega)
     have HYE:Hid ((PQ.getD k dp).1=(q:Int)/\True):=⟨hy,trivial⟩;have hq24:q<24:=by omega
     have hqi:(0:Int)<=(q:Int)/\(q:Int)<24:=by omega
     obtain ⟨hfz,t,hct,-⟩:=HAP.out.1.2 q hq24;have hX:w.heap.size+1<wr.heap.size:=HAP.out.1.1;have HN:Hid (∀ T u,∃ k':Nat,k'<=L/\Value.int .i64 ((k:Int)+1)=.int .i64 k'/\ThF ((wr.setCell ⟨w.heap.size+1,q,none⟩ (.bool true)).alloc (Obj.cells u T)) (w.heap.size+1) (tkP d.cs PQ k')/\OVp ((wr.setCell ⟨w.heap.size+1,q,none⟩ (.bool true)).alloc (Obj.cells u T)) Y (.slice (some ⟨b,off,none⟩) L qc) PQ/\Dk10 ((wr.setCell ⟨w.heap.size+1,q,none⟩ (.bool true)).alloc (Obj.cells u T)) w.heap.size d/\Below w.heap.size w ((wr.setCell ⟨w.heap.size+1,q,none⟩ (.bool true)).alloc (Obj.cells u T))):=fun T u=>by
      have hon:Only (fun x=>x=w.heap.size+1) wr (wr.setCell ⟨w.heap.size+1,q,none⟩ (.bool true)):=(Only.refl (fun x=>x=w.heap.size+1) wr).setCell (p:=⟨w.heap.size+1,q,none⟩) (.inl rfl) _
      have hba:Below (wr.setCell ⟨w.heap.size+1,q,none⟩ (.bool true)).heap.size (wr.setCell ⟨w.heap.size+1,q,none⟩ (.bool true)) ((wr.setCell ⟨w.heap.size+1,q,none⟩ (.bool true)).alloc (Obj.cells u T)):=ba;have h1:=(HAP.out.1.put hq24).imp (fun i _=>zju HYE.out.1 i)
      have h3:=HAP.out.2.2.1.keep (hon.below (B:=w.heap.size+1) (by omega) (fun k hk=>by omega)) (by omega)
      have h4:=HAP.out.2.2.2.setCell (p:=⟨w.heap.size+1,q,none⟩) (by simp) (.bool true)
      exact ⟨k+1,by omega,by simp,h1.keep hba h1.1,(HAP.out.2.1.stay hon (fun j hj e=>by have:=(HAP.out.2.1.blk hj).1;omega)).below hba,h3.step hba,h4.trans (hba.mono h4.size)⟩
     clear hc hy hov hyr;go_wp2;go_roundw
     case rel=>exact HN.out _ _
     case measure=>simp [intOf];omega
    ·have hkn:k=L:=by omega
     subst hkn;have HBL0:Hid (∀ B,Below B wr wr):=fun B=>Below.refl _ _
     have hX:w.heap.size+1<wr.heap.size:=HAP.out.1.1;have HTH:Hid (ThF wr (w.heap.size+1) (tkP d.cs PQ k)/\Dk10 wr w.heap.size d/\Below w.heap.size w wr):=⟨HAP.out.1,HAP.out.2.2⟩;clear HAP hov HRG;generalize hWE:wr=W2 at *;clear hWE;go_wp2
     go_loopw [8,9] (fun v i W=>∃ (k q:Nat) (va:Option Addr) (vc:Nat),k+2<=d.ss.length/\q=k+2/\i=.int .i64 (q:Int)/\v=.slice va (frL d k).length vc/\OVI W W2.heap.size (.slice va (frL d k).length vc) (frL d k)/\Below W2.heap.size W2 W) (fun _ i _=>d.ss.length-(intOf i).toNat)
     case atStart=>exact ⟨0,2,none,0,hr.1,rfl,rfl,rfl,OVI.nil _ _,Below.refl _ _⟩
     case round=>
      clear x0 x1 x2 x3 x4 x5 x6 x7 x8 x9 xl;obtain ⟨m,q,va,vc,hmk,hqm,rfl,rfl,hov,hbel⟩:=hrel;have HR:Hid (Below W2.heap.size W2 wr/\ThF wr (w.heap.size+1) (tkP d.cs PQ k)/\Dk10 wr w.heap.size d/\Below w.heap.size w wr):=⟨hbel,HTH.out.1.keep hbel hX,HTH.out.2.1.step hbel,HTH.out.2.2.trans (hbel.mono HTH.out.2.2.size)⟩;have HOV:Hid (OVI wr W2.heap.size (.slice va (frL d m).length vc) (frL d m)):=hov
      have HQ:Hid (q=m+2/\True):=⟨hqm,trivial⟩;have hll:=HLN.out m;have hq24:q<=24:=by omega
      obtain ⟨x0,x1,x2,x3,x4,x5,x6,x7,x8,x9,xl⟩:=HR.out.2.2.1;have hszW:=hbel.size;clear hov hbel
      by_cases hlt:(q:Int)<(d.ss.length:Int)
      ·have hq24':q<24:=by omega
       have hqi:(0:Int)<=(q:Int)/\(q:Int)<24:=by omega
       obtain ⟨hfz,t,hct,hti⟩:=HR.out.2.1.2 q hq24';have hfr:=HFT.out q t hti;have HFL:Hid (frL d (m+1)=if (!t)=true then frL d m++[(q:Int)] else frL d m):=by
        have e:frL d (m+1)=if frB d ((m+2:Nat):Int) then frL d m++[((m+2:Nat):Int)] else frL d m:=rfl
        rw [<-HQ.out.1,hfr] at e;exact e
       clear hfr hti hqm
       cases t with
       | true=>
        have HN:Hid (∃ (k' q':Nat) (va':Option Addr) (vc':Nat),k'+2<=d.ss.length/\q'=k'+2/\Value.int .i64 ((q:Int)+1)=.int .i64 (q':Int)/\Value.slice va (frL d m).length vc=.slice va' (frL d k').length vc'/\OVI wr W2.heap.size (.slice va' (frL d k').length vc') (frL d k')/\Below W2.heap.size W2 wr):=by
         have e:frL d (m+1)=frL d m:=HFL.out;have:=HQ.out.1;exact ⟨m+1,q+1,va,vc,by omega,by omega,by simp,by rw [e],by rw [e];exact HOV.out,HR.out.1⟩
        clear HFL HOV;go_wp2;go_roundw
        case rel=>exact HN.out
        case measure=>simp [intOf];omega
       | false=>
        have HE:Hid (frL d (m+1)=frL d m++[(q:Int)]/\True):=⟨HFL.out,trivial⟩;clear HFL;generalize frL d m=ls at *;go_wp2_with (at_builtin;refine wpList_append_own_at _ rfl _ _ 29 rfl W2.heap.size 3 i0 (.int .i64 0) 1 8 Tryz.underlying29 hi hz0 hz1 hz2 rfl (by decide) _ ls.length (ls.map (Value.int .i64)) rfl (HOV.out.1.alloc _) ⟨wr.heap.size,0,none⟩ 1 1 [.int .i64 (q:Int)] rfl rfl (cell_one_new _ _ _) (ints_oneCell .i64 [(q:Int)]) (by unfold maxLen;omega) (by omega) (by have:=hszW;simp;omega) ?_;intro v1 w4 hown1 hgrow1 hnil1 hloc1)
        have hov1:OVI w4 W2.heap.size v1 (ls++[(q:Int)]):=⟨by rw [List.length_append,List.map_append];exact hown1,fun z hz=>by
         rcases List.mem_append.1 hz with hz | hz
         ·exact HOV.out.2 z hz
         ·simp at hz;omega⟩
        have hb1':Below W2.heap.size W2 w4:=z0j HR.out.1 hszW HOV.out hgrow1;obtain ⟨va1,vc1,hv1⟩:=hov1.form;rw [<-HE.out.1] at hov1 hv1;subst hv1;have HN1:Hid (OVI w4 W2.heap.size (.slice va1 (frL d (m+1)).length vc1) (frL d (m+1))/\Below W2.heap.size W2 w4):=⟨hov1,hb1'⟩;clear hown1 hgrow1 hnil1 hloc1 hov1 hb1' HOV;go_roundw
        case rel=>exact ⟨m+1,q+1,va1,vc1,by have:=HQ.out.1;omega,by have:=HQ.out.1;omega,by go_num,rfl,HN1.out.1,HN1.out.2⟩
        case measure=>simp [intOf];omega
      ·have hkn:m=d.ss.length-2:=by have:=HQ.out.1;omega
       subst hkn;obtain ⟨a2,c2,e2,hm2⟩:=HOV.out.mine;obtain ⟨rfl,-,rfl⟩:va=a2/\(frL d (d.ss.length-2)).length=(frL d (d.ss.length-2)).length/\vc=c2:=by simpa using e2
       have HF:Hid (MinI wr w.heap.size wr.heap.size va vc (frL d (d.ss.length-2))):=hm2.mono (by omega) nl
       clear hm2 e2;go_wp2;go_ret;exact ⟨⟨_,_,rfl,HF.out⟩,HR.out.2.2.2⟩
theorem DkS.ssl {e d:DkV} (h:DkS e d):e.ss.length=d.ss.length:=by simpa using congrArg List.length h.ss
theorem zjt {e d:DkV} (h:DkS e d) (s:Int):frB e s=frB d s:=by
 unfold frB;rw [h.cs,h.ms,h.vs]
theorem zl1 {e d:DkV} (h:DkS e d) (k:Nat):frL e k=frL d k:=by
 induction k with
 | zero=>rfl
 | succ k ih=>
  simp only [frL]
  rw [ih,zjt h]
end Go.Proofs.YtkomjdjfknpinaaGreatDoor
