/- Lemmas on the way. -/
import Derived.Test.YtfeokafkhnbdiaaGreatDoorCut
import Derived.BigQuiet
import Derived.Test.YtfeokafkhnbdiaaGreatDoorPcB
set_option maxRecDepth 20000
set_option maxHeartbeats 16000000
namespace Go.Proofs.YtfeokafkhnbdiaaGreatDoor
set_option linter.unusedVariables false
section
variable {P : Program} {ops : Array Oper} {md : Region.Mode} {Q : Exit → Act → World → Prop} {S : World → Prop}
theorem tk (i:Nat) {oi:Oper} {v:Value} {fuel:Nat} {listed:Array Bool} {a:Act} {w:World} (y:∀ w,S w→(execOp a.eval oi).run P w=.ok (.value v) w)
  (h:wpAnyH P md ops Q S fuel (listed.setIfInBounds i true) (a.put oi.dst v) w) (hi:ops[i]?=some oi:=by rfl) (hs:Region.noSelect ops=true:=by kernel_rfl) (hf:Region.free md ops listed i=true:=by kernel_rfl) (hr:(Region.ready md ops listed).contains i=true:=by kernel_rfl)
  (hQ:∀ c a w,Q (.panic c) (a.put oi.dst v) w→Q (.panic c) a w:=by exact fun _ _ _ h=>h) (hg:Region.wanted oi (yielded ops a.tmps)=true:=by rfl) (hS:S w:=by assumption):wpAnyH P md ops Q S (fuel+1) listed a w:=
 wpAnyH_take hi hs hf hr hQ (Or.inl ⟨hg,y⟩) hS h
end
theorem tkS :(∀ (α:Type) (l:List α) (i:Nat) (h:i<l.toArray.size),l.toArray[i]=l[i]'(by simpa using h))∧(∀ (α:Type) (a:α) (l:List α) (h:0<(a :: l).length),(a :: l)[0]=a)∧(∀ (α:Type) (a:α) (l:List α) (i:Nat) (h:i+1<(a :: l).length),(a :: l)[i+1]=l[i]'(Nat.lt_of_succ_lt_succ h)) ∧
  (∀ (a:Act) (d:Tmp) (v:Value),a.put (some d) v={ a with tmps:=a.tmps.setIfInBounds d v })∧(∀ (a:Act) (v:Value),a.put none v=a)∧(∀ (α:Type) (l:List α) (i:Nat) (a:α),l.toArray.setIfInBounds i a=(l.set i a).toArray)∧(∀ (α:Type) (a:α) (l:List α) (b:α),(a :: l).set 0 b=b :: l)∧(∀ (α:Type) (a:α) (l:List α) (i:Nat) (b:α),(a :: l).set (i+1) b=a :: l.set i b):=
 ⟨fun _ _ _ _=>by simp,fun _ _ _ _=>rfl,fun _ _ _ _ _=>rfl,fun _ _ _=>rfl,fun _ _=>rfl,fun _ _ _ _=>by simp,fun _ _ _ _=>rfl,fun _ _ _ _ _=>rfl⟩
end Go.Proofs.YtfeokafkhnbdiaaGreatDoor
namespace Go.Proofs.YtfeokafkhnbdiaaGreatDoor
open Go.RowKit
set_option linter.unusedVariables false
set_option linter.unusedSimpArgs false
def coinsL (zs:List Int):Nat→List Pc
 | 0=>[]
 | k+1=>if 0<zs.getD k 0 then coinsL zs k++[.coin k (zs.getD k 0).toNat] else coinsL zs k
theorem coinsL_len (zs:List Int):∀ k,(coinsL zs k).length≤k
 | 0=>Nat.le_refl _
 | k+1=>by
  have:=coinsL_len zs k
  simp only [coinsL]
  split
  ·simp;omega
  ·omega
theorem coinsOf_any (a:Option Addr) (c:Nat) (zs:List Int) (w:World) (hb:Ins w a zs) (hl:zs.length≤80) (hz:∀ z ∈ zs,0≤z) :
  Calls Tryz.prog 120 #[.slice a zs.length c] w fun e w'=>∃ v,e=.returned v∧OVV w' w.heap.size v (coinsL zs zs.length)∧Below w.heap.size w w':=by
 have HY:Hid (Ins w a zs∧∀ z ∈ zs,0≤z):=⟨hb,hz⟩
 have HCL:Hid (∀ k,(coinsL zs k).length≤k):=coinsL_len zs
 have HC1:Hid (∀ k,0<zs.getD k 0→coinsL zs (k+1)=coinsL zs k++[.coin k (zs.getD k 0).toNat]):=fun k h=>by simp only [coinsL];rw [if_pos h]
 have HC0:Hid (∀ k,¬0<zs.getD k 0→coinsL zs k=coinsL zs (k+1)):=fun k h=>by simp only [coinsL];rw [if_neg h]
 have HCZ:Hid (coinsL zs 0=[]∧True):=⟨rfl,trivial⟩
 clear hb hz
 generalize hL:zs.length=n at *
 have HL:Hid (zs.length=n∧True):=⟨hL,trivial⟩
 clear hL
 go_enter Tryz.func120,Tryz.ntmps120
 go_wp2
 go_loopw [8,3] (fun i lv W=>∃ k:Nat,k≤n∧i=.int .i64 k∧OVV W w.heap.size lv (coinsL zs k)∧Below w.heap.size w W) (fun i _ _=>n-(intOf i).toNat)
 case atStart=>exact ⟨0,Nat.zero_le _,rfl,by rw [HCZ.out.1];exact OVV.nil _ _,Below.refl _ _⟩
 case round=>
  obtain ⟨k,hk,rfl,hov,hbel⟩:=hrel
  have HR:Hid (OVV wr w.heap.size u3 (coinsL zs k)∧Below w.heap.size w wr):=⟨hov,hbel⟩
  clear hov hbel
  by_cases hlt:k<n
  ·obtain ⟨b1,o1,rfl,hb1,hc1⟩:=HY.out.1.2 (by rw [HL.out.1];omega)
   have hc:=keep HR.out.2 hb1 (hc1 k (by rw [HL.out.1];exact hlt))
   have hz0:0≤zs.getD k 0:=HY.out.2 _ (by rw [List.getD_eq_getElem?_getD,List.getElem?_eq_getElem (by rw [HL.out.1];exact hlt)];exact List.getElem_mem _)
   obtain ⟨z,hzz⟩:∃ z:Nat,zs.getD k 0=z:=⟨(zs.getD k 0).toNat,by omega⟩
   have H1:=HC1.out k
   have H0:=HC0.out k
   rw [hzz] at hc H1 H0
   have hkn:(k:Int)<(n:Int):=by omega
   have hll:=HCL.out k
   obtain ⟨la,lc,hv3,-,-⟩:=HR.out.1.slice
   subst hv3
   clear hc1 hz0 hzz
   by_cases hp:0<z
   ·have hp2:(0:Int)<(z:Int):=by omega
    have HE:Hid (coinsL zs (k+1)=coinsL zs k++[.coin k z]):=H1 hp2
    have HYY:Hid (OVV (wr.alloc (Obj.cells #[.iface 198 (.agg #[.int .i64 k,.int .i64 z])] 166)) w.heap.size (.slice la (coinsL zs k).length lc) (coinsL zs k)∧Pcs (wr.alloc (Obj.cells #[.iface 198 (.agg #[.int .i64 k,.int .i64 z])] 166)) (some ⟨wr.heap.size,0,none⟩) [.coin k z]∧w.heap.size≤(wr.alloc (Obj.cells #[.iface 198 (.agg #[.int .i64 k,.int .i64 z])] 166)).heap.size∧Below w.heap.size w (wr.alloc (Obj.cells #[.iface 198 (.agg #[.int .i64 k,.int .i64 z])] 166))):=
     ⟨HR.out.1.below ((Below.refl _ _).alloc nl _),pcs_one wr (.coin k z),by have:=HR.out.2.size;simp;omega,HR.out.2.alloc HR.out.2.size _⟩
    clear H1 H0
    go_wp2_with (at_builtin;(refine wpList_append_pc (v:=.slice la (coinsL zs k).length lc) (qs:=[.coin k z]) rfl (.tmp 15) (.tmp 20) 163 163 rfl Tryz.underlying163 Tryz.underlying163 rfl rfl rfl HYY.out.1 HYY.out.2.1 (show (coinsL zs k).length+1≤100000 by omega) HYY.out.2.2.1 ?_;intro v9 w9 hov9 hg9 hat9;have H9:Hid (OVV w9 w.heap.size v9 (coinsL zs (k+1))∧Below w.heap.size w w9):=⟨(by rw [HE.out];exact hov9),HYY.out.2.2.2.grown hg9 HYY.out.2.2.1 (fun j hj=>(World.ownsRow.lt HYY.out.1 j hj).1)⟩;clear hov9 hg9 hat9))
    go_roundw
    case rel=>exact ⟨k+1,by omega,by go_num,H9.out.1,H9.out.2⟩
    case measure=>simp [intOf];omega
   ·have hp2:¬(0:Int)<(z:Int):=by omega
    have HE:Hid (coinsL zs k=coinsL zs (k+1)):=H0 (by omega)
    clear H1 H0
    go_wp2
    go_roundw
    case rel=>exact ⟨k+1,by omega,by go_num,by rw [←HE.out];exact HR.out.1,HR.out.2⟩
    case measure=>simp [intOf];omega
  ·have hkn:k=n:=by omega
   subst hkn
   go_wp2
   go_ret
   exact ⟨_,rfl,HR.out.1,HR.out.2⟩
def pairL (l:List Pc):Nat→List Pc
 | 0=>[]
 | k+1=>pairL l k++[.pack (l.getD (2*k) dpc) (l.getD (2*k+1) dpc) k]
theorem pairL_len (l:List Pc):∀ k,(pairL l k).length=k
 | 0=>rfl
 | k+1=>by simp [pairL,pairL_len l k]
theorem Pc.asked (p:Pc) (hp:p.fine):(∃ x,p.vl=.iface 198 x∧∀ W,Calls Tryz.prog 184 #[x] W fun e w'=>e=.returned (.int .i64 (p.wt:Nat))∧Below W.heap.size W w')∨(∃ x,p.vl=.iface 205 x∧∀ W,Calls Tryz.prog 193 #[x] W fun e w'=>e=.returned (.int .i64 (p.wt:Nat))∧Below W.heap.size W w'):=by
 cases p with
 | coin s c=>exact .inl ⟨_,rfl,fun W=>coinWeight_any s c W⟩
 | pack a b n=>exact .inr ⟨_,rfl,fun W=>packWeight_any a b n W⟩
theorem packsOf_any (a:Option Addr) (c:Nat) (l:List Pc) (w:World) (hb:Pcs w a l) (hl:l.length≤900) (hf:∀ p ∈ l,p.fine) :
  Calls Tryz.prog 122 #[.slice a l.length c] w fun e w'=>∃ v,e=.returned v∧OVV w' w.heap.size v (pairL l (l.length / 2))∧Below w.heap.size w w':=by
 have HY:Hid (Pcs w a l):=hb
 have HFI:Hid (∀ i,(l.getD i dpc).fine):=fun i=>by
  rw [List.getD_eq_getElem?_getD]
  cases he:l[i]? with
  | none=>exact ⟨by simp [dpc,Pc.wt],by simp [dpc,Pc.plc]⟩
  | some p=>exact hf p (List.mem_of_getElem? he)
 have HPL:Hid (∀ k,(pairL l k).length=k):=pairL_len l
 clear hb hf
 obtain ⟨n,hn⟩:∃ n,n=l.length / 2:=⟨_,rfl⟩
 rw [←hn]
 have hq:Int.tdiv (l.length:Int) 2=(n:Int):=by rw [Int.tdiv_eq_ediv_of_nonneg (by omega)];omega
 have HN:Hid (2*n≤l.length∧True):=⟨by omega,trivial⟩
 have hn1:n≤450:=by omega
 clear hn
 obtain ⟨N,hN⟩:∃ N,N=l.length:=⟨_,rfl⟩
 rw [←hN] at hq HN hl ⊢
 have HNL:Hid (N=l.length∧True):=⟨hN,trivial⟩
 clear hN
 have mcw:=Tryz.meth_coin_weight
 have mpw:=Tryz.meth_coinPack_weight
 go_enter Tryz.func122,Tryz.ntmps122
 go_wp2
 go_loopw [11,3] (fun i lv W=>∃ k:Nat,k≤n∧i=.int .i64 k∧OVV W w.heap.size lv (pairL l k)∧Below w.heap.size w W) (fun i _ _=>n-(intOf i).toNat)
 case atStart=>exact ⟨0,Nat.zero_le _,rfl,OVV.nil _ _,Below.refl _ _⟩
 case round=>
  obtain ⟨k,hk,rfl,hov,hbel⟩:=hrel
  have HR:Hid (OVV wr w.heap.size u3 (pairL l k)∧Below w.heap.size w wr):=⟨hov,hbel⟩
  have HBD:Hid (∀ nq,Below w.heap.size w (wr.drewN nq)∧OVV (wr.drewN nq) w.heap.size u3 (pairL l k)):=fun nq=>⟨⟨hbel.os,hbel.tape,hbel.output,hbel.size,hbel.block⟩,hov⟩
  clear hov hbel
  by_cases hlt:k<n
  ·obtain ⟨b1,o1,rfl,hb1,hc1⟩:=HY.out (by have:=HN.out.1;have:=HNL.out.1;omega)
   obtain ⟨i0,hi0⟩:∃ i,i=2*k:=⟨_,rfl⟩
   obtain ⟨i1,hi1⟩:∃ i,i=2*k+1:=⟨_,rfl⟩
   have hb1w:b1<wr.heap.size:=by have:=HR.out.2.size;omega
   have hc0:=keep HR.out.2 hb1 (hc1 i0 (by have:=HN.out.1;have:=HNL.out.1;omega))
   have hc2:=keep HR.out.2 hb1 (hc1 i1 (by have:=HN.out.1;have:=HNL.out.1;omega))
   have hi0i:2*(k:Int)=(i0:Int):=by omega
   have hi1i:(i0:Int)+1=(i1:Int):=by omega
   have hi0n:(i0:Int)<(N:Int):=by have:=HN.out.1;omega
   have hi1n:(i1:Int)<(N:Int):=by have:=HN.out.1;omega
   have hf0:=HFI.out i0
   have hf1:=HFI.out i1
   have HPK:Hid (pairL l (k+1)=pairL l k++[.pack (l.getD i0 dpc) (l.getD i1 dpc) k]):=by rw [hi0,hi1];rfl
   have hkn:(k:Int)<(n:Int):=by omega
   have hll:=HPL.out k
   obtain ⟨la,lc,hv3,-,-⟩:=HR.out.1.slice
   rw [hll] at hv3
   subst hv3
   have HI:Hid (i0=2*k∧i1=2*k+1):=⟨hi0,hi1⟩
   clear hc1 hi0 hi1 hll
   generalize l.getD i0 dpc=p at *
   generalize l.getD i1 dpc=q at *
   have hw0:=hf0.1
   have hw1:=hf1.1
   rcases p.asked hf0 with ⟨x,hx,hcx⟩ | ⟨x,hx,hcx⟩
   ·rcases q.asked hf1 with ⟨y,hy,hcy⟩ | ⟨y,hy,hcy⟩
    ·have HVP:Hid (p.vl=.iface 198 x∧q.vl=.iface 198 y):=⟨hx,hy⟩
     rw [hx] at hc0
     rw [hy] at hc2
     obtain ⟨u,hu⟩:∃ u,u=p.wt:=⟨_,rfl⟩
     obtain ⟨v,hv⟩:∃ v,v=q.wt:=⟨_,rfl⟩
     rw [←hu] at hcx hw0
     rw [←hv] at hcy hw1
     have HUV:Hid (u=p.wt∧v=q.wt):=⟨hu,hv⟩
     obtain ⟨m,hm⟩:∃ m,m=u+v:=⟨_,rfl⟩
     have hmi:(u:Int)+(v:Int)=(m:Int):=by omega
     have HM:Hid (m=u+v∧True):=⟨hm,trivial⟩
     have HCX:Hid _:=hcx
     have HCY:Hid _:=hcy
     clear hx hy hu hv hm hcx hcy hf0 hf1
     go_wp2
     go_quiet (fail)
     go_wp2_with fail
     generalize hW:wr.drewN nq=W4 at *
     have HB4:Hid (Below w.heap.size w W4∧OVV W4 w.heap.size (.slice la k lc) (pairL l k)):=by have:=HBD.out nq;rw [hW] at this;exact this
     clear hW
     refine (HCX.out _).mono ?_
     rintro e w4 ⟨rfl,hb4⟩
     go_wp2_with fail
     refine (HCY.out _).mono ?_
     rintro e w5 ⟨rfl,hb5⟩
     have HB5:Hid (Below w.heap.size w w5∧OVV w5 w.heap.size (.slice la k lc) (pairL l k)):=⟨(HB4.out.1.trans (hb4.mono HB4.out.1.size)).trans (hb5.mono (Nat.le_trans HB4.out.1.size hb4.size)),(HB4.out.2.below hb4).below hb5⟩
     have HYY:Hid (OVV (w5.alloc (Obj.cells #[.iface 205 (.agg #[.iface 198 x,.iface 198 y,.int .i64 ((m:Nat):Int),.int .i64 k])] 166)) w.heap.size (.slice la k lc) (pairL l k)∧Pcs (w5.alloc (Obj.cells #[.iface 205 (.agg #[.iface 198 x,.iface 198 y,.int .i64 ((m:Nat):Int),.int .i64 k])] 166)) (some ⟨w5.heap.size,0,none⟩) [.pack p q k]∧w.heap.size≤(w5.alloc (Obj.cells #[.iface 205 (.agg #[.iface 198 x,.iface 198 y,.int .i64 ((m:Nat):Int),.int .i64 k])] 166)).heap.size∧Below w.heap.size w (w5.alloc (Obj.cells #[.iface 205 (.agg #[.iface 198 x,.iface 198 y,.int .i64 ((m:Nat):Int),.int .i64 k])] 166))):=by
      refine ⟨HB5.out.2.below ((Below.refl _ _).alloc nl _),?_,by have:=HB5.out.1.size;simp;omega,HB5.out.1.alloc HB5.out.1.size _⟩
      have h1:=pcs_one w5 (.pack p q k)
      have h2:(Pc.pack p q k).vl=.iface 205 (.agg #[.iface 198 x,.iface 198 y,.int .i64 ((m:Nat):Int),.int .i64 k]):=by
       show Value.iface 205 (Pc.pack p q k).bd=_
       rw [Pc.bd_pack,HVP.out.1,HVP.out.2,HM.out.1,HUV.out.1,HUV.out.2]
      rw [h2] at h1
      exact h1
     clear hb4 hb5
     go_wp2_with (at_builtin;(refine wpList_append_pc (v:=.slice la k lc) (ps:=pairL l k) (qs:=[.pack p q k]) rfl (.tmp 30) (.tmp 37) 163 163 rfl Tryz.underlying163 Tryz.underlying163 rfl rfl rfl HYY.out.1 HYY.out.2.1 (show (pairL l k).length+1≤100000 by rw [HPL.out];omega) HYY.out.2.2.1 ?_;intro v9 w9 hov9 hg9 hat9;have H9:Hid (OVV w9 w.heap.size v9 (pairL l (k+1))∧Below w.heap.size w w9):=⟨(by rw [HPK.out];exact hov9),HYY.out.2.2.2.grown hg9 HYY.out.2.2.1 (fun j hj=>(World.ownsRow.lt HYY.out.1 j hj).1)⟩;clear hov9 hg9 hat9))
     go_roundw
     case rel=>exact ⟨k+1,by omega,by go_num,H9.out.1,H9.out.2⟩
     case measure=>simp [intOf];omega
    ·have HVP:Hid (p.vl=.iface 198 x∧q.vl=.iface 205 y):=⟨hx,hy⟩
     rw [hx] at hc0
     rw [hy] at hc2
     obtain ⟨u,hu⟩:∃ u,u=p.wt:=⟨_,rfl⟩
     obtain ⟨v,hv⟩:∃ v,v=q.wt:=⟨_,rfl⟩
     rw [←hu] at hcx hw0
     rw [←hv] at hcy hw1
     have HUV:Hid (u=p.wt∧v=q.wt):=⟨hu,hv⟩
     obtain ⟨m,hm⟩:∃ m,m=u+v:=⟨_,rfl⟩
     have hmi:(u:Int)+(v:Int)=(m:Int):=by omega
     have HM:Hid (m=u+v∧True):=⟨hm,trivial⟩
     have HCX:Hid _:=hcx
     have HCY:Hid _:=hcy
     clear hx hy hu hv hm hcx hcy hf0 hf1
     go_wp2
     go_quiet (fail)
     go_wp2_with fail
     generalize hW:wr.drewN nq=W4 at *
     have HB4:Hid (Below w.heap.size w W4∧OVV W4 w.heap.size (.slice la k lc) (pairL l k)):=by have:=HBD.out nq;rw [hW] at this;exact this
     clear hW
     refine (HCX.out _).mono ?_
     rintro e w4 ⟨rfl,hb4⟩
     go_wp2_with fail
     refine (HCY.out _).mono ?_
     rintro e w5 ⟨rfl,hb5⟩
     have HB5:Hid (Below w.heap.size w w5∧OVV w5 w.heap.size (.slice la k lc) (pairL l k)):=⟨(HB4.out.1.trans (hb4.mono HB4.out.1.size)).trans (hb5.mono (Nat.le_trans HB4.out.1.size hb4.size)),(HB4.out.2.below hb4).below hb5⟩
     have HYY:Hid (OVV (w5.alloc (Obj.cells #[.iface 205 (.agg #[.iface 198 x,.iface 205 y,.int .i64 ((m:Nat):Int),.int .i64 k])] 166)) w.heap.size (.slice la k lc) (pairL l k)∧Pcs (w5.alloc (Obj.cells #[.iface 205 (.agg #[.iface 198 x,.iface 205 y,.int .i64 ((m:Nat):Int),.int .i64 k])] 166)) (some ⟨w5.heap.size,0,none⟩) [.pack p q k]∧w.heap.size≤(w5.alloc (Obj.cells #[.iface 205 (.agg #[.iface 198 x,.iface 205 y,.int .i64 ((m:Nat):Int),.int .i64 k])] 166)).heap.size∧Below w.heap.size w (w5.alloc (Obj.cells #[.iface 205 (.agg #[.iface 198 x,.iface 205 y,.int .i64 ((m:Nat):Int),.int .i64 k])] 166))):=by
      refine ⟨HB5.out.2.below ((Below.refl _ _).alloc nl _),?_,by have:=HB5.out.1.size;simp;omega,HB5.out.1.alloc HB5.out.1.size _⟩
      have h1:=pcs_one w5 (.pack p q k)
      have h2:(Pc.pack p q k).vl=.iface 205 (.agg #[.iface 198 x,.iface 205 y,.int .i64 ((m:Nat):Int),.int .i64 k]):=by
       show Value.iface 205 (Pc.pack p q k).bd=_
       rw [Pc.bd_pack,HVP.out.1,HVP.out.2,HM.out.1,HUV.out.1,HUV.out.2]
      rw [h2] at h1
      exact h1
     clear hb4 hb5
     go_wp2_with (at_builtin;(refine wpList_append_pc (v:=.slice la k lc) (ps:=pairL l k) (qs:=[.pack p q k]) rfl (.tmp 30) (.tmp 37) 163 163 rfl Tryz.underlying163 Tryz.underlying163 rfl rfl rfl HYY.out.1 HYY.out.2.1 (show (pairL l k).length+1≤100000 by rw [HPL.out];omega) HYY.out.2.2.1 ?_;intro v9 w9 hov9 hg9 hat9;have H9:Hid (OVV w9 w.heap.size v9 (pairL l (k+1))∧Below w.heap.size w w9):=⟨(by rw [HPK.out];exact hov9),HYY.out.2.2.2.grown hg9 HYY.out.2.2.1 (fun j hj=>(World.ownsRow.lt HYY.out.1 j hj).1)⟩;clear hov9 hg9 hat9))
     go_roundw
     case rel=>exact ⟨k+1,by omega,by go_num,H9.out.1,H9.out.2⟩
     case measure=>simp [intOf];omega
   ·rcases q.asked hf1 with ⟨y,hy,hcy⟩ | ⟨y,hy,hcy⟩
    ·have HVP:Hid (p.vl=.iface 205 x∧q.vl=.iface 198 y):=⟨hx,hy⟩
     rw [hx] at hc0
     rw [hy] at hc2
     obtain ⟨u,hu⟩:∃ u,u=p.wt:=⟨_,rfl⟩
     obtain ⟨v,hv⟩:∃ v,v=q.wt:=⟨_,rfl⟩
     rw [←hu] at hcx hw0
     rw [←hv] at hcy hw1
     have HUV:Hid (u=p.wt∧v=q.wt):=⟨hu,hv⟩
     obtain ⟨m,hm⟩:∃ m,m=u+v:=⟨_,rfl⟩
     have hmi:(u:Int)+(v:Int)=(m:Int):=by omega
     have HM:Hid (m=u+v∧True):=⟨hm,trivial⟩
     have HCX:Hid _:=hcx
     have HCY:Hid _:=hcy
     clear hx hy hu hv hm hcx hcy hf0 hf1
     go_wp2
     go_quiet (fail)
     go_wp2_with fail
     generalize hW:wr.drewN nq=W4 at *
     have HB4:Hid (Below w.heap.size w W4∧OVV W4 w.heap.size (.slice la k lc) (pairL l k)):=by have:=HBD.out nq;rw [hW] at this;exact this
     clear hW
     refine (HCX.out _).mono ?_
     rintro e w4 ⟨rfl,hb4⟩
     go_wp2_with fail
     refine (HCY.out _).mono ?_
     rintro e w5 ⟨rfl,hb5⟩
     have HB5:Hid (Below w.heap.size w w5∧OVV w5 w.heap.size (.slice la k lc) (pairL l k)):=⟨(HB4.out.1.trans (hb4.mono HB4.out.1.size)).trans (hb5.mono (Nat.le_trans HB4.out.1.size hb4.size)),(HB4.out.2.below hb4).below hb5⟩
     have HYY:Hid (OVV (w5.alloc (Obj.cells #[.iface 205 (.agg #[.iface 205 x,.iface 198 y,.int .i64 ((m:Nat):Int),.int .i64 k])] 166)) w.heap.size (.slice la k lc) (pairL l k)∧Pcs (w5.alloc (Obj.cells #[.iface 205 (.agg #[.iface 205 x,.iface 198 y,.int .i64 ((m:Nat):Int),.int .i64 k])] 166)) (some ⟨w5.heap.size,0,none⟩) [.pack p q k]∧w.heap.size≤(w5.alloc (Obj.cells #[.iface 205 (.agg #[.iface 205 x,.iface 198 y,.int .i64 ((m:Nat):Int),.int .i64 k])] 166)).heap.size∧Below w.heap.size w (w5.alloc (Obj.cells #[.iface 205 (.agg #[.iface 205 x,.iface 198 y,.int .i64 ((m:Nat):Int),.int .i64 k])] 166))):=by
      refine ⟨HB5.out.2.below ((Below.refl _ _).alloc nl _),?_,by have:=HB5.out.1.size;simp;omega,HB5.out.1.alloc HB5.out.1.size _⟩
      have h1:=pcs_one w5 (.pack p q k)
      have h2:(Pc.pack p q k).vl=.iface 205 (.agg #[.iface 205 x,.iface 198 y,.int .i64 ((m:Nat):Int),.int .i64 k]):=by
       show Value.iface 205 (Pc.pack p q k).bd=_
       rw [Pc.bd_pack,HVP.out.1,HVP.out.2,HM.out.1,HUV.out.1,HUV.out.2]
      rw [h2] at h1
      exact h1
     clear hb4 hb5
     go_wp2_with (at_builtin;(refine wpList_append_pc (v:=.slice la k lc) (ps:=pairL l k) (qs:=[.pack p q k]) rfl (.tmp 30) (.tmp 37) 163 163 rfl Tryz.underlying163 Tryz.underlying163 rfl rfl rfl HYY.out.1 HYY.out.2.1 (show (pairL l k).length+1≤100000 by rw [HPL.out];omega) HYY.out.2.2.1 ?_;intro v9 w9 hov9 hg9 hat9;have H9:Hid (OVV w9 w.heap.size v9 (pairL l (k+1))∧Below w.heap.size w w9):=⟨(by rw [HPK.out];exact hov9),HYY.out.2.2.2.grown hg9 HYY.out.2.2.1 (fun j hj=>(World.ownsRow.lt HYY.out.1 j hj).1)⟩;clear hov9 hg9 hat9))
     go_roundw
     case rel=>exact ⟨k+1,by omega,by go_num,H9.out.1,H9.out.2⟩
     case measure=>simp [intOf];omega
    ·have HVP:Hid (p.vl=.iface 205 x∧q.vl=.iface 205 y):=⟨hx,hy⟩
     rw [hx] at hc0
     rw [hy] at hc2
     obtain ⟨u,hu⟩:∃ u,u=p.wt:=⟨_,rfl⟩
     obtain ⟨v,hv⟩:∃ v,v=q.wt:=⟨_,rfl⟩
     rw [←hu] at hcx hw0
     rw [←hv] at hcy hw1
     have HUV:Hid (u=p.wt∧v=q.wt):=⟨hu,hv⟩
     obtain ⟨m,hm⟩:∃ m,m=u+v:=⟨_,rfl⟩
     have hmi:(u:Int)+(v:Int)=(m:Int):=by omega
     have HM:Hid (m=u+v∧True):=⟨hm,trivial⟩
     have HCX:Hid _:=hcx
     have HCY:Hid _:=hcy
     clear hx hy hu hv hm hcx hcy hf0 hf1
     go_wp2
     go_quiet (fail)
     go_wp2_with fail
     generalize hW:wr.drewN nq=W4 at *
     have HB4:Hid (Below w.heap.size w W4∧OVV W4 w.heap.size (.slice la k lc) (pairL l k)):=by have:=HBD.out nq;rw [hW] at this;exact this
     clear hW
     refine (HCX.out _).mono ?_
     rintro e w4 ⟨rfl,hb4⟩
     go_wp2_with fail
     refine (HCY.out _).mono ?_
     rintro e w5 ⟨rfl,hb5⟩
     have HB5:Hid (Below w.heap.size w w5∧OVV w5 w.heap.size (.slice la k lc) (pairL l k)):=⟨(HB4.out.1.trans (hb4.mono HB4.out.1.size)).trans (hb5.mono (Nat.le_trans HB4.out.1.size hb4.size)),(HB4.out.2.below hb4).below hb5⟩
     have HYY:Hid (OVV (w5.alloc (Obj.cells #[.iface 205 (.agg #[.iface 205 x,.iface 205 y,.int .i64 ((m:Nat):Int),.int .i64 k])] 166)) w.heap.size (.slice la k lc) (pairL l k)∧Pcs (w5.alloc (Obj.cells #[.iface 205 (.agg #[.iface 205 x,.iface 205 y,.int .i64 ((m:Nat):Int),.int .i64 k])] 166)) (some ⟨w5.heap.size,0,none⟩) [.pack p q k]∧w.heap.size≤(w5.alloc (Obj.cells #[.iface 205 (.agg #[.iface 205 x,.iface 205 y,.int .i64 ((m:Nat):Int),.int .i64 k])] 166)).heap.size∧Below w.heap.size w (w5.alloc (Obj.cells #[.iface 205 (.agg #[.iface 205 x,.iface 205 y,.int .i64 ((m:Nat):Int),.int .i64 k])] 166))):=by
      refine ⟨HB5.out.2.below ((Below.refl _ _).alloc nl _),?_,by have:=HB5.out.1.size;simp;omega,HB5.out.1.alloc HB5.out.1.size _⟩
      have h1:=pcs_one w5 (.pack p q k)
      have h2:(Pc.pack p q k).vl=.iface 205 (.agg #[.iface 205 x,.iface 205 y,.int .i64 ((m:Nat):Int),.int .i64 k]):=by
       show Value.iface 205 (Pc.pack p q k).bd=_
       rw [Pc.bd_pack,HVP.out.1,HVP.out.2,HM.out.1,HUV.out.1,HUV.out.2]
      rw [h2] at h1
      exact h1
     clear hb4 hb5
     go_wp2_with (at_builtin;(refine wpList_append_pc (v:=.slice la k lc) (ps:=pairL l k) (qs:=[.pack p q k]) rfl (.tmp 30) (.tmp 37) 163 163 rfl Tryz.underlying163 Tryz.underlying163 rfl rfl rfl HYY.out.1 HYY.out.2.1 (show (pairL l k).length+1≤100000 by rw [HPL.out];omega) HYY.out.2.2.1 ?_;intro v9 w9 hov9 hg9 hat9;have H9:Hid (OVV w9 w.heap.size v9 (pairL l (k+1))∧Below w.heap.size w w9):=⟨(by rw [HPK.out];exact hov9),HYY.out.2.2.2.grown hg9 HYY.out.2.2.1 (fun j hj=>(World.ownsRow.lt HYY.out.1 j hj).1)⟩;clear hov9 hg9 hat9))
     go_roundw
     case rel=>exact ⟨k+1,by omega,by go_num,H9.out.1,H9.out.2⟩
     case measure=>simp [intOf];omega
  ·have hkn:k=n:=by omega
   subst hkn
   go_wp2
   go_ret
   exact ⟨_,rfl,HR.out.1,HR.out.2⟩
def Pc.sz :Pc→Nat
 | .coin s c=>1
 | .pack a b n=>a.sz+b.sz
def Pc.ok (n:Nat):Pc→Prop
 | .coin s c=>s<n∧1≤c
 | .pack a b m=>a.ok n∧b.ok n
def cntP :Pc→List Int→List Int
 | .coin s c,zs=>bump zs s
 | .pack a b n,zs=>cntP b (cntP a zs)
theorem cntP_len (p:Pc):∀ zs:List Int,(cntP p zs).length=zs.length:=by
 induction p with
 | coin s c=>intro zs;exact bump_len zs s
 | pack a b n iha ihb=>intro zs;rw [cntP,ihb,iha]
theorem cntP_rng (p:Pc):∀ (zs:List Int) (M:Int),0≤M→(∀ z ∈ zs,0≤z∧z≤M)→∀ z ∈ cntP p zs,0≤z∧z≤M+p.sz:=by
 induction p with
 | coin s c=>intro zs M h0 h;exact bump_rng h h0
 | pack a b n iha ihb=>
  intro zs M h0 h z hz
  have h1:=ihb (cntP a zs) (M+a.sz) (by omega) (iha zs M h0 h) z hz
  simp only [Pc.sz]
  omega
theorem sz_wt {n:Nat} (p:Pc):p.ok n→p.sz≤p.wt:=by
 induction p with
 | coin s c=>intro h;exact h.2
 | pack a b m iha ihb=>
  intro h
  have h1:=iha h.1
  have h2:=ihb h.2
  simp only [Pc.sz,Pc.wt]
  omega
def CI (F:FuncId) (x:Value) (p:Pc):Prop:=∀ (B g cap:Nat) (zs:List Int) (W:World) (M:Int),OwI W B g cap zs→p.ok zs.length→0≤M→(∀ z ∈ zs,0≤z∧z≤M)→M+p.sz≤1000000000000000000 →
 Calls Tryz.prog F #[x,.slice (some ⟨g,0,none⟩) zs.length cap] W fun e w'=>e=.returned (.tuple #[])∧OwI w' B g cap (cntP p zs)∧Only (fun k=>k=g) W w'
theorem coinCI (s c:Nat):CI 182 (Pc.coin s c).bd (.coin s c):=by
 intro B g cap zs W M ho hok hM hr hm
 have hs:s<zs.length:=hok.1
 have hg:=ho.lt
 have hb0:Below W.heap.size W (W.alloc (Obj.cells #[.int .i64 s,.int .i64 c] 198)):=bAw
 have ho1:=ho.below hb0 nl
 have c0:=ho1.cell s hs
 have f0:=ho1.frozen s
 have hz:=hr _ (getD_mem hs)
 have HE:Hid (OwI ((W.setCell ⟨g,s,none⟩ (.int .i64 (zs.getD s 0+1))).alloc (Obj.cells #[.int .i64 s,.int .i64 c] 198)) B g cap (cntP (.coin s c) zs)∧Only (fun k=>k=g) W ((W.setCell ⟨g,s,none⟩ (.int .i64 (zs.getD s 0+1))).alloc (Obj.cells #[.int .i64 s,.int .i64 c] 198))):=by
  refine ⟨?_,((Only.refl (fun k=>k=g) W).setCell (p:=⟨g,s,none⟩) (.inl rfl) _).alloc _⟩
  have:=(ho.store s (zs.getD s 0+1) (by simp only [Pc.sz] at hm;omega)).below ((Below.refl _ _).alloc nl (Obj.cells #[.int .i64 s,.int .i64 c] 198)) nl
  simpa [cntP,bump] using this
 have hsn:(s:Int)<(zs.length:Int):=by omega
 have hzm:zs.getD s 0≤1000000000000000000:=by omega
 have hz0:0≤zs.getD s 0:=hz.1
 clear ho ho1 hr hm hz
 generalize zs.getD s 0=z at *
 generalize zs.length=n at *
 show Calls _ _ #[.agg #[.int .i64 s,.int .i64 c],_] _ _
 go_enter Tryz.func182,Tryz.ntmps182
 go_wp2
 go_end0
 exact ⟨rfl,HE.out.1,HE.out.2⟩
theorem packCI_cc (a b:Pc) (m:Nat) (x y:Value) (hx:a.vl=.iface 198 x) (hy:b.vl=.iface 198 y) (ha:CI 182 x a) (hb:CI 182 y b):CI 191 (Pc.pack a b m).bd (.pack a b m):=by
 intro B g cap zs W M ho hok hM hr hm
 rw [Pc.bd_pack,hx,hy]
 have hb0:Below W.heap.size W (W.alloc (Obj.cells #[.iface 198 x,.iface 198 y,.int .i64 ((a.wt+b.wt:Nat):Int),.int .i64 m] 205)):=bAw
 have hblk:=heap_alloc_new W (Obj.cells #[.iface 198 x,.iface 198 y,.int .i64 ((a.wt+b.wt:Nat):Int),.int .i64 m] 205)
 simp only [Pc.sz] at hm
 have HA:=ha B g cap zs _ M (ho.below hb0 nl) hok.1 hM hr (by omega)
 have HB:Hid (∀ W2,OwI W2 B g cap (cntP a zs)→Calls Tryz.prog 182 #[y,.slice (some ⟨g,0,none⟩) zs.length cap] W2 fun e w'=>e=.returned (.tuple #[])∧OwI w' B g cap (cntP b (cntP a zs))∧Only (fun k=>k=g) W2 w'):=fun W2 h2=>by
  have h:=hb B g cap (cntP a zs) W2 (M+a.sz) h2 (by rw [cntP_len];exact hok.2) (by omega) (cntP_rng a zs M hM hr) (by omega)
  rw [cntP_len] at h
  exact h
 have HG:Hid (W.heap.size≠g∧Only (fun k=>k=g) W (W.alloc (Obj.cells #[.iface 198 x,.iface 198 y,.int .i64 ((a.wt+b.wt:Nat):Int),.int .i64 m] 205))):=⟨by have:=ho.lt.2;omega,Only.ofBelow hb0 nl⟩
 have HBK:Hid ((W.alloc (Obj.cells #[.iface 198 x,.iface 198 y,.int .i64 ((a.wt+b.wt:Nat):Int),.int .i64 m] 205)).heap[W.heap.size]?=some (.cells #[.iface 198 x,.iface 198 y,.int .i64 ((a.wt+b.wt:Nat):Int),.int .i64 m] 205 (0,0))):=hblk
 have mA:=Tryz.meth_coin_countInto
 have mB:=Tryz.meth_coinPack_countInto
 clear hx hy ha hb ho hok hr hm hb0 hblk
 obtain ⟨sm,hsm⟩:∃ sm,sm=a.wt+b.wt:=⟨_,rfl⟩
 rw [←hsm] at HA HG HBK ⊢
 clear hsm
 go_enter Tryz.func191,Tryz.ntmps191
 go_wp2_with fail
 refine HA.mono ?_
 clear HA
 rintro e w1 ⟨rfl,ho1,on1⟩
 have c1:w1.cell? ⟨W.heap.size,1,none⟩=some (.iface 198 y):=cell_blk ((on1.block _ (by simp) HG.out.1).trans HBK.out) rfl
 have HB1:=HB.out w1 ho1
 have HO1:Hid (Only (fun k=>k=g) W w1):=HG.out.2.trans on1
 clear ho1 on1
 go_wp2_with fail
 refine HB1.mono ?_
 clear HB1
 rintro e w2 ⟨rfl,ho2,on2⟩
 have HO2:Hid (Only (fun k=>k=g) W w2∧OwI w2 B g cap (cntP (.pack a b m) zs)):=⟨HO1.out.trans on2,ho2⟩
 clear ho2 on2
 go_wp2
 go_end0
 exact ⟨rfl,HO2.out.2,HO2.out.1⟩
theorem packCI_cp (a b:Pc) (m:Nat) (x y:Value) (hx:a.vl=.iface 198 x) (hy:b.vl=.iface 205 y) (ha:CI 182 x a) (hb:CI 191 y b):CI 191 (Pc.pack a b m).bd (.pack a b m):=by
 intro B g cap zs W M ho hok hM hr hm
 rw [Pc.bd_pack,hx,hy]
 have hb0:Below W.heap.size W (W.alloc (Obj.cells #[.iface 198 x,.iface 205 y,.int .i64 ((a.wt+b.wt:Nat):Int),.int .i64 m] 205)):=bAw
 have hblk:=heap_alloc_new W (Obj.cells #[.iface 198 x,.iface 205 y,.int .i64 ((a.wt+b.wt:Nat):Int),.int .i64 m] 205)
 simp only [Pc.sz] at hm
 have HA:=ha B g cap zs _ M (ho.below hb0 nl) hok.1 hM hr (by omega)
 have HB:Hid (∀ W2,OwI W2 B g cap (cntP a zs)→Calls Tryz.prog 191 #[y,.slice (some ⟨g,0,none⟩) zs.length cap] W2 fun e w'=>e=.returned (.tuple #[])∧OwI w' B g cap (cntP b (cntP a zs))∧Only (fun k=>k=g) W2 w'):=fun W2 h2=>by
  have h:=hb B g cap (cntP a zs) W2 (M+a.sz) h2 (by rw [cntP_len];exact hok.2) (by omega) (cntP_rng a zs M hM hr) (by omega)
  rw [cntP_len] at h
  exact h
 have HG:Hid (W.heap.size≠g∧Only (fun k=>k=g) W (W.alloc (Obj.cells #[.iface 198 x,.iface 205 y,.int .i64 ((a.wt+b.wt:Nat):Int),.int .i64 m] 205))):=⟨by have:=ho.lt.2;omega,Only.ofBelow hb0 nl⟩
 have HBK:Hid ((W.alloc (Obj.cells #[.iface 198 x,.iface 205 y,.int .i64 ((a.wt+b.wt:Nat):Int),.int .i64 m] 205)).heap[W.heap.size]?=some (.cells #[.iface 198 x,.iface 205 y,.int .i64 ((a.wt+b.wt:Nat):Int),.int .i64 m] 205 (0,0))):=hblk
 have mA:=Tryz.meth_coin_countInto
 have mB:=Tryz.meth_coinPack_countInto
 clear hx hy ha hb ho hok hr hm hb0 hblk
 obtain ⟨sm,hsm⟩:∃ sm,sm=a.wt+b.wt:=⟨_,rfl⟩
 rw [←hsm] at HA HG HBK ⊢
 clear hsm
 go_enter Tryz.func191,Tryz.ntmps191
 go_wp2_with fail
 refine HA.mono ?_
 clear HA
 rintro e w1 ⟨rfl,ho1,on1⟩
 have c1:w1.cell? ⟨W.heap.size,1,none⟩=some (.iface 205 y):=cell_blk ((on1.block _ (by simp) HG.out.1).trans HBK.out) rfl
 have HB1:=HB.out w1 ho1
 have HO1:Hid (Only (fun k=>k=g) W w1):=HG.out.2.trans on1
 clear ho1 on1
 go_wp2_with fail
 refine HB1.mono ?_
 clear HB1
 rintro e w2 ⟨rfl,ho2,on2⟩
 have HO2:Hid (Only (fun k=>k=g) W w2∧OwI w2 B g cap (cntP (.pack a b m) zs)):=⟨HO1.out.trans on2,ho2⟩
 clear ho2 on2
 go_wp2
 go_end0
 exact ⟨rfl,HO2.out.2,HO2.out.1⟩
theorem packCI_pc (a b:Pc) (m:Nat) (x y:Value) (hx:a.vl=.iface 205 x) (hy:b.vl=.iface 198 y) (ha:CI 191 x a) (hb:CI 182 y b):CI 191 (Pc.pack a b m).bd (.pack a b m):=by
 intro B g cap zs W M ho hok hM hr hm
 rw [Pc.bd_pack,hx,hy]
 have hb0:Below W.heap.size W (W.alloc (Obj.cells #[.iface 205 x,.iface 198 y,.int .i64 ((a.wt+b.wt:Nat):Int),.int .i64 m] 205)):=bAw
 have hblk:=heap_alloc_new W (Obj.cells #[.iface 205 x,.iface 198 y,.int .i64 ((a.wt+b.wt:Nat):Int),.int .i64 m] 205)
 simp only [Pc.sz] at hm
 have HA:=ha B g cap zs _ M (ho.below hb0 nl) hok.1 hM hr (by omega)
 have HB:Hid (∀ W2,OwI W2 B g cap (cntP a zs)→Calls Tryz.prog 182 #[y,.slice (some ⟨g,0,none⟩) zs.length cap] W2 fun e w'=>e=.returned (.tuple #[])∧OwI w' B g cap (cntP b (cntP a zs))∧Only (fun k=>k=g) W2 w'):=fun W2 h2=>by
  have h:=hb B g cap (cntP a zs) W2 (M+a.sz) h2 (by rw [cntP_len];exact hok.2) (by omega) (cntP_rng a zs M hM hr) (by omega)
  rw [cntP_len] at h
  exact h
 have HG:Hid (W.heap.size≠g∧Only (fun k=>k=g) W (W.alloc (Obj.cells #[.iface 205 x,.iface 198 y,.int .i64 ((a.wt+b.wt:Nat):Int),.int .i64 m] 205))):=⟨by have:=ho.lt.2;omega,Only.ofBelow hb0 nl⟩
 have HBK:Hid ((W.alloc (Obj.cells #[.iface 205 x,.iface 198 y,.int .i64 ((a.wt+b.wt:Nat):Int),.int .i64 m] 205)).heap[W.heap.size]?=some (.cells #[.iface 205 x,.iface 198 y,.int .i64 ((a.wt+b.wt:Nat):Int),.int .i64 m] 205 (0,0))):=hblk
 have mA:=Tryz.meth_coin_countInto
 have mB:=Tryz.meth_coinPack_countInto
 clear hx hy ha hb ho hok hr hm hb0 hblk
 obtain ⟨sm,hsm⟩:∃ sm,sm=a.wt+b.wt:=⟨_,rfl⟩
 rw [←hsm] at HA HG HBK ⊢
 clear hsm
 go_enter Tryz.func191,Tryz.ntmps191
 go_wp2_with fail
 refine HA.mono ?_
 clear HA
 rintro e w1 ⟨rfl,ho1,on1⟩
 have c1:w1.cell? ⟨W.heap.size,1,none⟩=some (.iface 198 y):=cell_blk ((on1.block _ (by simp) HG.out.1).trans HBK.out) rfl
 have HB1:=HB.out w1 ho1
 have HO1:Hid (Only (fun k=>k=g) W w1):=HG.out.2.trans on1
 clear ho1 on1
 go_wp2_with fail
 refine HB1.mono ?_
 clear HB1
 rintro e w2 ⟨rfl,ho2,on2⟩
 have HO2:Hid (Only (fun k=>k=g) W w2∧OwI w2 B g cap (cntP (.pack a b m) zs)):=⟨HO1.out.trans on2,ho2⟩
 clear ho2 on2
 go_wp2
 go_end0
 exact ⟨rfl,HO2.out.2,HO2.out.1⟩
theorem packCI_pp (a b:Pc) (m:Nat) (x y:Value) (hx:a.vl=.iface 205 x) (hy:b.vl=.iface 205 y) (ha:CI 191 x a) (hb:CI 191 y b):CI 191 (Pc.pack a b m).bd (.pack a b m):=by
 intro B g cap zs W M ho hok hM hr hm
 rw [Pc.bd_pack,hx,hy]
 have hb0:Below W.heap.size W (W.alloc (Obj.cells #[.iface 205 x,.iface 205 y,.int .i64 ((a.wt+b.wt:Nat):Int),.int .i64 m] 205)):=bAw
 have hblk:=heap_alloc_new W (Obj.cells #[.iface 205 x,.iface 205 y,.int .i64 ((a.wt+b.wt:Nat):Int),.int .i64 m] 205)
 simp only [Pc.sz] at hm
 have HA:=ha B g cap zs _ M (ho.below hb0 nl) hok.1 hM hr (by omega)
 have HB:Hid (∀ W2,OwI W2 B g cap (cntP a zs)→Calls Tryz.prog 191 #[y,.slice (some ⟨g,0,none⟩) zs.length cap] W2 fun e w'=>e=.returned (.tuple #[])∧OwI w' B g cap (cntP b (cntP a zs))∧Only (fun k=>k=g) W2 w'):=fun W2 h2=>by
  have h:=hb B g cap (cntP a zs) W2 (M+a.sz) h2 (by rw [cntP_len];exact hok.2) (by omega) (cntP_rng a zs M hM hr) (by omega)
  rw [cntP_len] at h
  exact h
 have HG:Hid (W.heap.size≠g∧Only (fun k=>k=g) W (W.alloc (Obj.cells #[.iface 205 x,.iface 205 y,.int .i64 ((a.wt+b.wt:Nat):Int),.int .i64 m] 205))):=⟨by have:=ho.lt.2;omega,Only.ofBelow hb0 nl⟩
 have HBK:Hid ((W.alloc (Obj.cells #[.iface 205 x,.iface 205 y,.int .i64 ((a.wt+b.wt:Nat):Int),.int .i64 m] 205)).heap[W.heap.size]?=some (.cells #[.iface 205 x,.iface 205 y,.int .i64 ((a.wt+b.wt:Nat):Int),.int .i64 m] 205 (0,0))):=hblk
 have mA:=Tryz.meth_coin_countInto
 have mB:=Tryz.meth_coinPack_countInto
 clear hx hy ha hb ho hok hr hm hb0 hblk
 obtain ⟨sm,hsm⟩:∃ sm,sm=a.wt+b.wt:=⟨_,rfl⟩
 rw [←hsm] at HA HG HBK ⊢
 clear hsm
 go_enter Tryz.func191,Tryz.ntmps191
 go_wp2_with fail
 refine HA.mono ?_
 clear HA
 rintro e w1 ⟨rfl,ho1,on1⟩
 have c1:w1.cell? ⟨W.heap.size,1,none⟩=some (.iface 205 y):=cell_blk ((on1.block _ (by simp) HG.out.1).trans HBK.out) rfl
 have HB1:=HB.out w1 ho1
 have HO1:Hid (Only (fun k=>k=g) W w1):=HG.out.2.trans on1
 clear ho1 on1
 go_wp2_with fail
 refine HB1.mono ?_
 clear HB1
 rintro e w2 ⟨rfl,ho2,on2⟩
 have HO2:Hid (Only (fun k=>k=g) W w2∧OwI w2 B g cap (cntP (.pack a b m) zs)):=⟨HO1.out.trans on2,ho2⟩
 clear ho2 on2
 go_wp2
 go_end0
 exact ⟨rfl,HO2.out.2,HO2.out.1⟩
theorem Pc.counted (p:Pc):(∃ x,p.vl=.iface 198 x∧CI 182 x p)∨(∃ x,p.vl=.iface 205 x∧CI 191 x p):=by
 induction p with
 | coin s c=>exact .inl ⟨_,rfl,coinCI s c⟩
 | pack a b n iha ihb=>
  refine .inr ⟨_,rfl,?_⟩
  rcases iha with ⟨x,hx,ha⟩ | ⟨x,hx,ha⟩ <;> rcases ihb with ⟨y,hy,hb⟩ | ⟨y,hy,hb⟩
  ·exact packCI_cc a b n x y hx hy ha hb
  ·exact packCI_cp a b n x y hx hy ha hb
  ·exact packCI_pc a b n x y hx hy ha hb
  ·exact packCI_pp a b n x y hx hy ha hb
end Go.Proofs.YtfeokafkhnbdiaaGreatDoor
