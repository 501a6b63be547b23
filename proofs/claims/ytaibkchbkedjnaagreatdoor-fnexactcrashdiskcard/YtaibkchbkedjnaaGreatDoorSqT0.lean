import Derived.Test.YtaibkchbkedjnaaGreatDoorGbT
set_option maxRecDepth 20000
set_option maxHeartbeats 16000000
namespace Go.Proofs.YtaibkchbkedjnaaGreatDoor
open Go.RowKit
set_option linter.unusedVariables false
set_option linter.unusedSimpArgs false
def RdS (n V m:Nat) (ts:List Int) (M U:Nat):Prop:=8<=n/\((m=2/\∃ E,RdH n V 8 (bt V 0 8) ts E/\E<=n/\M=n-E/\U=bt V E (n-E))\/(m≠2/\∃ E,RdT n V 8 (bt V 0 8) ts E M/\E+M<=n/\U=bt V E M))
theorem RdS.unique {n V m:Nat} {ts ts':List Int} {M U M' U':Nat} (h:RdS n V m ts M U) (h':RdS n V m ts' M' U'):ts=ts'/\M=M'/\U=U':=by
 obtain ⟨-,⟨hm,E,h1,-,rfl,rfl⟩ | ⟨hm,E,h1,-,rfl⟩⟩:=h
 ·obtain ⟨-,⟨hm',E',h1',-,rfl,rfl⟩ | ⟨hm',E',h1',-,rfl⟩⟩:=h'
  ·obtain ⟨rfl,rfl⟩:=h1.unique h1'
   exact ⟨rfl,rfl,rfl⟩
  ·exact absurd hm hm'
 ·obtain ⟨-,⟨hm',E',h1',-,rfl,rfl⟩ | ⟨hm',E',h1',-,rfl⟩⟩:=h'
  ·exact absurd hm' hm
  ·obtain ⟨rfl,rfl,rfl⟩:=h1.unique h1'
   exact ⟨rfl,rfl,rfl⟩
theorem RdS.le {n V m:Nat} {ts:List Int} {M U:Nat} (h:RdS n V m ts M U):M<=n:=by
 obtain ⟨-,⟨hm,E,h1,-,rfl,rfl⟩ | ⟨hm,E,h1,h2,rfl⟩⟩:=h <;> omega
theorem z8h (R B:Nat) (a:Option Addr) (cap:Nat) (zs:List Int) (n V m:Nat) (w0 w:World) (hb:Byt w0 a zs) (hB:w0.heap.size=B) (hbel:Below B w0 w) (hz:zs=enc n V) (hn:n<=4096) (hR:RD w B R a zs.length cap n 0) (hm:m<=255) (hS:SentD w0) :
  Calls Tryz.prog 200 #[.pointer (some ⟨R,0,none⟩),.int .i64 m] w fun e w'=>Only (fun k=>k=R) w w' /\
   ((∃ ts M U g a' cp,RdS n V m ts M U/\OwI w' w.heap.size g (bt V 0 8) ts/\Mine w' w.heap.size w'.heap.size a' cp (enc M U) /\
     e=.returned (.tuple #[.slice (some ⟨g,0,none⟩) (bt V 0 8) (bt V 0 8),.agg #[.slice a' (enc M U).length cp,.int .i64 (M:Nat)],.nilIface])) \/
    ((¬∃ ts M U,RdS n V m ts M U)/\∃ T x v z l c M,e=.returned (.tuple #[v,.agg #[.slice z l c,.int .i64 M],.iface T x]))):=by
 have hRl:R<w.heap.size:=(Array.getElem?_eq_some_iff.1 hR.1).1;have hBW:Below B w0 w/\B<=R/\B<=w.heap.size:=⟨hbel,hR.2.1,hR.2.2⟩;have HQ:Hid (Byt w0 a zs/\w0.heap.size=B/\zs=enc n V/\SentD w0/\(Below B w0 w/\B<=R/\B<=w.heap.size)):=⟨hb,hB,hz,hS,hBW⟩;have hA1:=AnO.new R w;have hG2:=hS.f.hG;have hrd1:RD (w.alloc (Obj.cells #[.slice none 0 0,.int .i64 0] 155)) B R a zs.length cap n 0:=hR.only (Only.alloc (Only.refl (fun _=>False) w) _) (by simp)
 have hbl1:=z0f hBW hA1.on;have HA1:Hid _:=hA1
 by_cases c8:8<=n
 ·have HG8:=hrd1.yes V 8 (by omega) (hb.below hbl1 (by rw [hB];exact Nat.le_refl _)) hz (by omega) (by omega) (by omega)
  clear hb hB hz hS hBW hbel hR hA1 hrd1 hbl1
  go_enter Tryz.func200,Tryz.ntmps200
  go_wp2_with fail
  refine HG8.mono ?_;clear HG8;rintro e w3 ⟨rfl,hrd3,ho3,hb3⟩;have hA3:AnO R w w3:=AnO.step HA1.out ho3 hRl;have hbl3:=z0f HQ.out.2.2.2.2 hA3.on;have hN8:bt V 0 8<256:=z00 V 0 8;rw [show V / 2 ^ 0 % 2 ^ (8:Int).toNat=bt V 0 8 from rfl]
  have hrd3':RD w3 B R a zs.length cap n 8:=hrd3;have HLL:=z6c R B a cap zs n V 8 (bt V 0 8) w0 w3 HQ.out.1 HQ.out.2.1 hbl3 HQ.out.2.2.1 hn hrd3' c8 (by omega) HQ.out.2.2.2.1
  have HTT:=z80 R B a cap zs n V 8 (bt V 0 8) w0 w3 HQ.out.1 HQ.out.2.1 hbl3 HQ.out.2.2.1 hn hrd3' c8 (by omega) HQ.out.2.2.2.1
  have HA3:Hid (AnO R w w3):=hA3;have z3:=hA3.lt;clear HA1 hrd3 hrd3' ho3 hb3 hA3 hbl3;obtain ⟨N,hNe⟩:∃ N,N=bt V 0 8:=⟨_,rfl⟩;rw [<-hNe] at HLL HTT hN8 ⊢;have HNE:Hid (N=bt V 0 8):=hNe;clear hNe
  by_cases hm2:m=2
  ·have hmi:((m:Int) == 2)=true:=by rw [beq_iff_eq];omega
   clear HTT;go_wp2_with fail
   refine HLL.mono ?_;clear HLL;rintro e w4 ⟨ho4,⟨ts,E,g,a',cp,hrh,hEn,how,hmi4,rfl⟩ | ⟨hno,T,x,v,z,l,c,M,rfl⟩⟩
   ·have hA4:AnO R w w4:=AnO.step HA3.out ho4 hRl
    have HRS:Hid (RdS n V m ts (n-E) (bt V E (n-E))):=⟨c8,.inl ⟨hm2,E,by rw [<-HNE.out];exact hrh,hEn,rfl,rfl⟩⟩
    have HF:Hid (Only (fun k=>k=R) w w4/\OwI w4 w3.heap.size g N ts/\Mine w4 w3.heap.size w4.heap.size a' cp (enc (n-E) (bt V E (n-E)))):=⟨hA4.on,how,hmi4⟩
    have hgl:=how.lt.1;obtain ⟨x0,x1,y0,y1,hlt4,_⟩:=hA4;clear ho4 hrh how hmi4 HA3;generalize bt V E (n-E)=U at *;generalize n-E=M at *;generalize hES:enc M U=es at *;have HES:Hid (enc M U=es):=hES;clear hES;go_wp2;have hO9:Only (fun k=>k=w.heap.size) w4 ((w4.setCell ⟨w.heap.size,0,none⟩ (.slice a' es.length cp)).setCell ⟨w.heap.size,1,none⟩ (.int .i64 (M:Nat))):=
     Only.setCell (Only.setCell (Only.refl (fun k=>k=w.heap.size) w4) (p:=⟨w.heap.size,0,none⟩) (.inl rfl) _) (p:=⟨w.heap.size,1,none⟩) (.inl rfl) _
    refine bodyPost_ret (v:=.tuple #[.slice (some ⟨g,0,none⟩) N N,.agg #[.slice a' es.length cp,.int .i64 (M:Nat)],.nilIface]) (by simp [results,Tryz.results200,go_sem,x0,x1]) rfl ⟨?_,.inl ⟨ts,M,U,g,a',cp,HRS.out,?_,?_,by rw [HES.out,HNE.out]⟩⟩
    ·have h0:=HF.out.1
     repeat (first | exact h0 | refine Only.setCell ?_ (.inr (by simp)) _)
    ·rw [<-HNE.out]
     exact (HF.out.2.1.mono (by omega)).only hO9 (by omega)
    ·rw [HES.out]
     exact (HF.out.2.2.only hO9 (fun b h1 _=>by omega)).mono (by omega) hO9.size
   ·have HNO:Hid (¬∃ ts M U,RdS n V m ts M U):=by
     rintro ⟨ts,M,U,-,⟨-,E,h1,-⟩ | ⟨h1,-⟩⟩
     ·exact hno ⟨ts,E,by rw [HNE.out];exact h1⟩
     ·exact h1 hm2
    have hA4:AnO R w w4:=AnO.step HA3.out ho4 hRl;have HON:Hid (Only (fun k=>k=R) w w4):=hA4.on
    obtain ⟨x0,x1,y0,y1,hlt4,_⟩:=hA4;clear ho4 hno HA3;go_wp2;refine bodyPost_ret (v:=.tuple #[v,.agg #[.slice z l c,.int .i64 M],.iface T x]) (by simp [results,Tryz.results200,go_sem,x0,x1]) rfl ⟨?_,.inr ⟨HNO.out,_,_,_,_,_,_,_,rfl⟩⟩
    have h0:=HON.out
    repeat (first | exact h0 | refine Only.setCell ?_ (.inr (by simp)) _)
  ·have hmi:((m:Int) == 2)=false:=by rw [beq_eq_false_iff_ne];omega
   clear HLL;go_wp2_with fail
   refine HTT.mono ?_;clear HTT;rintro e w4 ⟨ho4,⟨ts,E,M,g,a',cp,hrh,hEn,how,hmi4,rfl⟩ | ⟨hno,T,x,v,z,l,c,M,rfl⟩⟩
   ·have hA4:AnO R w w4:=AnO.step HA3.out ho4 hRl
    have HRS:Hid (RdS n V m ts M (bt V E M)):=⟨c8,.inr ⟨hm2,E,by rw [<-HNE.out];exact hrh,hEn,rfl⟩⟩
    have HF:Hid (Only (fun k=>k=R) w w4/\OwI w4 w3.heap.size g N ts/\Mine w4 w3.heap.size w4.heap.size a' cp (enc M (bt V E M))):=⟨hA4.on,how,hmi4⟩
    have hgl:=how.lt.1;obtain ⟨x0,x1,y0,y1,hlt4,_⟩:=hA4;clear ho4 hrh how hmi4 HA3;generalize bt V E M=U at *;generalize hES:enc M U=es at *;have HES:Hid (enc M U=es):=hES;clear hES;go_wp2;have hO9:Only (fun k=>k=w.heap.size) w4 ((w4.setCell ⟨w.heap.size,0,none⟩ (.slice a' es.length cp)).setCell ⟨w.heap.size,1,none⟩ (.int .i64 (M:Nat))):=
     Only.setCell (Only.setCell (Only.refl (fun k=>k=w.heap.size) w4) (p:=⟨w.heap.size,0,none⟩) (.inl rfl) _) (p:=⟨w.heap.size,1,none⟩) (.inl rfl) _
    refine bodyPost_ret (v:=.tuple #[.slice (some ⟨g,0,none⟩) N N,.agg #[.slice a' es.length cp,.int .i64 (M:Nat)],.nilIface]) (by simp [results,Tryz.results200,go_sem,x0,x1]) rfl ⟨?_,.inl ⟨ts,M,U,g,a',cp,HRS.out,?_,?_,by rw [HES.out,HNE.out]⟩⟩
    ·have h0:=HF.out.1
     repeat (first | exact h0 | refine Only.setCell ?_ (.inr (by simp)) _)
    ·rw [<-HNE.out]
     exact (HF.out.2.1.mono (by omega)).only hO9 (by omega)
    ·rw [HES.out]
     exact (HF.out.2.2.only hO9 (fun b h1 _=>by omega)).mono (by omega) hO9.size
   ·have HNO:Hid (¬∃ ts M U,RdS n V m ts M U):=by
     rintro ⟨ts,M,U,-,⟨h1,-⟩ | ⟨-,E,h1,-⟩⟩
     ·exact hm2 h1
     ·exact hno ⟨ts,E,M,by rw [HNE.out];exact h1⟩
    have hA4:AnO R w w4:=AnO.step HA3.out ho4 hRl;have HON:Hid (Only (fun k=>k=R) w w4):=hA4.on
    obtain ⟨x0,x1,y0,y1,hlt4,_⟩:=hA4;clear ho4 hno HA3;go_wp2;refine bodyPost_ret (v:=.tuple #[v,.agg #[.slice z l c,.int .i64 M],.iface T x]) (by simp [results,Tryz.results200,go_sem,x0,x1]) rfl ⟨?_,.inr ⟨HNO.out,_,_,_,_,_,_,_,rfl⟩⟩
    have h0:=HON.out
    repeat (first | exact h0 | refine Only.setCell ?_ (.inr (by simp)) _)
 ·have HNO:Hid (¬∃ ts M U,RdS n V m ts M U):=fun ⟨ts,M,U,h,_⟩=>c8 h
  have HG8:=hrd1.no 8 (by omega) (by omega) (hS.f.s0.below hbl1 (by omega)) (hS.f.s1.below hbl1 (by omega)) (by omega)
  clear hb hB hz hS hBW hbel hR hA1 hrd1 hbl1
  go_enter Tryz.func200,Tryz.ntmps200
  go_wp2_with fail
  refine HG8.mono ?_;clear HG8;rintro e w3 ⟨⟨T,y,rfl⟩,m3,rfl⟩;have hA4:AnO R w _:=AnO.step HA1.out ((Only.refl _ _).drewN m3) hRl;clear HA1;generalize (w.alloc (Obj.cells #[.slice none 0 0,.int .i64 0] 155)).drewN m3=w4 at *;have HON:Hid (Only (fun k=>k=R) w w4):=hA4.on
  obtain ⟨x0,x1,y0,y1,hlt4,_⟩:=hA4;go_wp2;refine bodyPost_ret (v:=.tuple #[.slice none 0 0,.agg #[.slice none 0 0,.int .i64 0],.iface T y]) (by simp [results,Tryz.results200,go_sem,x0,x1]) rfl ⟨?_,.inr ⟨HNO.out,_,_,_,_,_,_,_,rfl⟩⟩
  have h0:=HON.out
  repeat (first | exact h0 | refine Only.setCell ?_ (.inr (by simp)) _)
theorem Reads.rng {ls cs:List Int} {n v p:Nat} {q:List Int} {E:Nat} (h:Reads ls cs n v p q E):∀ s ∈ q,0<=s/\s<ls.length:=by
 induction h with
 | nil=>simp
 | snoc h ho ih=>
  intro s hs
  simp only [List.mem_append,List.mem_cons,List.not_mem_nil,or_false] at hs
  rcases hs with hs | rfl
  ·exact ih s hs
  ·have:=ho.2.2.2.1
   omega
theorem zje {T:List Int} {L:Nat} (hT:Gd T L) (hL:1<=L) (v E:Nat):∀ i,∀ z ∈ so T v E i,0<=z/\z<(L:Int):=by
 intro i
 induction i with
 | zero=>intro z hz;simp [so] at hz
 | succ i ih=>
  intro z hz
  rw [so] at hz
  simp only [List.mem_append,List.mem_cons,List.not_mem_nil,or_false] at hz
  rcases hz with hz | rfl
  ·exact ih z hz
  ·cases hq:sg T v E i with
   | none=>simp;omega
   | some q=>
    obtain ⟨s0,e0⟩:=q;obtain ⟨s,b,z,k1,_,_,k4,_⟩:=hT.cell s0 (zbh hT v E i s0 e0 hq).1
    simp only
    rw [k1]
    omega
theorem RdS.rng {n V m:Nat} {ts:List Int} {M U:Nat} (h:RdS n V m ts M U):(∀ s ∈ ts,0<=s/\s<40)/\ts.length=bt V 0 8:=by
 obtain ⟨-,⟨hm,E,⟨res,q,hg,hl,hr⟩,-⟩ | ⟨hm,E,h1,h2,rfl⟩⟩:=h
 ·have h40:=(zg8 n V 40 40 8 [] false res q (by simp) (by simp) hg.1).2.1
  refine ⟨fun s hs=>?_,hl⟩
  have:=hr.rng s hs
  omega
 ·obtain ⟨hg,-,-,-,-,-,rfl⟩:=h1
  have hgd:=za9 (z4j (by omega) (by omega) hg)
  rw [z1h] at hgd;exact ⟨zje hgd (by omega) _ _ _,zas _ _ _ _⟩
theorem zi7 :∀ t,t<256->0<t->∃ b,b<8/\2 ^ b<=t/\t<2 ^ (b+1):=by
 intro t h1 h2
 refine ⟨Nat.log2 t,?_,Nat.log2_self_le (by omega),Nat.lt_log2_self⟩
 have:Nat.log2 t<8:=(Nat.log2_lt (by omega)).2 h1
 exact this
theorem zl2 (zs:List Int) (hl:zs.length<=1048576) (hr:∀ z ∈ zs,0<=z/\z<=255) :
  (∃ n V:Nat,n<=4096/\V<2 ^ n /\
   (∀ (a:Option Addr) (cap:Nat) (w:World),zs.length<=cap->Byt w a zs->Calls Tryz.prog 117 #[.slice a zs.length cap] w fun e w'=>
    ∃ a' cp,e=.returned (.tuple #[.agg #[.slice a' (enc n V).length cp,.int .i64 (n:Nat)],.bool true])/\Mine w' w.heap.size w'.heap.size a' cp (enc n V)/\Below w.heap.size w w') /\
   (∀ (a:Option Addr) (cap:Nat) (w:World),Byt w a zs->Calls Tryz.prog 199 #[.slice a zs.length cap] w fun e w'=>
    ∃ a' cp,e=.returned (.tuple #[.agg #[.slice a' (enc n V).length cp,.int .i64 (n:Nat)],.bool true])/\Mine w' w.heap.size w'.heap.size a' cp (enc n V)/\Below w.heap.size w w')) \/
  ((∀ (a:Option Addr) (cap:Nat) (w:World),zs.length<=cap->Byt w a zs->Calls Tryz.prog 117 #[.slice a zs.length cap] w fun e w'=>
    ∃ a' l cp M,e=.returned (.tuple #[.agg #[.slice a' l cp,.int .i64 M],.bool false])/\Below w.heap.size w w') /\
   (∀ (a:Option Addr) (cap:Nat) (w:World),Byt w a zs->Calls Tryz.prog 199 #[.slice a zs.length cap] w fun e w'=>
    e=.returned (.tuple #[.agg #[.slice none 0 0,.int .i64 0],.bool false])/\Below w.heap.size w w')):=by
 by_cases h0:zs=[]\/zs.getD (zs.length-1) 0=0
 ·refine .inr ⟨fun a cap w _ hb=>?_,fun a cap w hb=>z5c a cap zs w hb hl (h0.elim .inl (fun h=>.inr (.inl h)))⟩
  refine (zgn a cap zs w hb hl h0).mono ?_;rintro e w' ⟨rfl,hb'⟩;exact ⟨none,0,0,0,rfl,hb'⟩
 ·have hne:zs≠[]:=fun h=>h0 (.inl h)
  have hp:0<zs.length:=List.length_pos_iff.2 hne;obtain ⟨L,hL⟩:∃ L,zs.length=L+1:=⟨zs.length-1,by omega⟩
  have hrL:=z0g hr L;have hnz:zs.getD L 0≠0:=fun h=>h0 (.inr (by rw [show zs.length-1=L from by omega];exact h))
  obtain ⟨t,ht⟩:=Int.eq_ofNat_of_zero_le hrL.1;rw [ht] at hrL hnz;obtain ⟨b,hb8,h1,h2⟩:=zi7 t (by omega) (by omega)
  have hok:=zig zs L b t hL h1 h2 hb8;have hrng:∀ z ∈ zj zs L b t,0<=z/\z<=255:=by
   intro z hzz
   unfold zj at hzz
   split at hzz
   ·exact hr z (List.mem_of_mem_take hzz)
   ·rcases List.mem_or_eq_of_mem_set hzz with h | rfl
    ·exact hr z h
    ·omega
  by_cases hn:8*L+b<=4096
  ·rw [decide_eq_true hn] at hok
   obtain ⟨m,hm1,hm2,hm3,hm4⟩:=zjs hok hrng;obtain rfl:8*L+b=m:=by omega
   refine .inl ⟨8*L+b,val (zj zs L b t),hn,hm4,fun a cap w hcap hb=>?_,fun a cap w hb=>?_⟩
   ·have:=z6t a cap zs L b t w hb hL (by omega) (by omega) ht h1 h2 hb8
    rw [hok] at this;rw [hL,<-hm3];exact this
   ·have:=zau a cap zs L b t w hb hL ht h1 h2 hb8 hn
    rw [hL,<-hm3];exact this
  ·rw [decide_eq_false hn] at hok
   refine .inr ⟨fun a cap w hcap hb=>?_,fun a cap w hb=>z5c a cap zs w hb hl (.inr (.inr ⟨L,b,t,hL,ht,h1,h2,hb8,by omega⟩))⟩
   have:=z6t a cap zs L b t w hb hL (by omega) (by omega) ht h1 h2 hb8
   rw [hok] at this;rw [hL];refine this.mono ?_;rintro e w' ⟨a',cp,rfl,-,hb'⟩;exact ⟨a',_,cp,_,rfl,hb'⟩
def wid (s:Int):Nat:=if 28<=s then (s-28).toNat else if 16<=s then (s-16).toNat else 4
theorem z6q {s:Int} (h:s<40):wid s<=11:=by unfold wid;split <;> (try split) <;> omega
def uq (N V:Nat):List Int->Nat->List Int->Nat->List (List Int × Int × Int)->Option (List (List Int × Int × Int) × Nat × List Int × Nat)
 | [],p,lits,L,out=>some (out,p,lits,L)
 | s :: t,p,lits,L,out=>
  if N<p+wid s\/¬(0<L↔28<=s) then none
  else if s<16 then uq N V t (p+4) (lits++[16*s+(bt V p 4:Nat)]) L out
  else if s<28 then uq N V t (p+wid s) lits (2 ^ wid s+bt V p (wid s)+2) out
  else uq N V t (p+wid s) [] 0 (out++[(lits,(L:Int),((2 ^ wid s+bt V p (wid s):Nat):Int))])
def uqE (N:Nat):Option (List (List Int × Int × Int) × Nat × List Int × Nat)->Option (List (List Int × Int × Int))
 | none=>none
 | some (out,p,lits,L)=>if p=N/\L=0 then some (if lits=[] then out else out++[(lits,0,0)]) else none
def uqF (N V:Nat) (ts:List Int):Option (List (List Int × Int × Int)):=uqE N (uq N V ts 0 [] 0 [])
theorem z24 {N V:Nat} {s:Int} {t:List Int} {p L:Nat} {lits:List Int} {out:List (List Int × Int × Int)} (h:N<p+wid s\/¬(0<L↔28<=s)):uq N V (s :: t) p lits L out=none:=by simp only [uq];rw [if_pos h]
theorem zgf {N V:Nat} {s:Int} {t:List Int} {p L:Nat} {lits:List Int} {out:List (List Int × Int × Int)} (h1:p+4<=N) (hL:L=0) (hs:s<16):uq N V (s :: t) p lits L out=uq N V t (p+4) (lits++[16*s+(bt V p 4:Nat)]) L out:=by
 have hw:wid s=4:=by unfold wid;rw [if_neg (by omega),if_neg (by omega)]
 simp only [uq]
 rw [if_neg (by rw [hw];omega),if_pos hs]
theorem zfh {N V:Nat} {s:Int} {t:List Int} {p L:Nat} {lits:List Int} {out:List (List Int × Int × Int)} (h1:p+wid s<=N) (hL:L=0) (hs:16<=s) (hs2:s<28):uq N V (s :: t) p lits L out=uq N V t (p+wid s) lits (2 ^ wid s+bt V p (wid s)+2) out:=by
 simp only [uq]
 rw [if_neg (by omega),if_neg (by omega),if_pos hs2]
theorem zfl {N V:Nat} {s:Int} {t:List Int} {p L:Nat} {lits:List Int} {out:List (List Int × Int × Int)} (h1:p+wid s<=N) (hL:0<L) (hs:28<=s):uq N V (s :: t) p lits L out=uq N V t (p+wid s) [] 0 (out++[(lits,(L:Int),((2 ^ wid s+bt V p (wid s):Nat):Int))]):=by
 simp only [uq]
 rw [if_neg (by omega),if_neg (by omega),if_neg (by omega)]
theorem zft (ts:List Int) (i:Nat) (h:i<ts.length):ts.drop i=ts.getD i 0 :: ts.drop (i+1):=by
 rw [List.drop_eq_getElem_cons h,List.getD_eq_getElem?_getD,List.getElem?_eq_getElem h]
 rfl
theorem z7z {s:Int} (h:s<40):2 ^ wid s<=2048:=by
 have:=Nat.pow_le_pow_right (show 0<2 by omega) (z6q h)
 simpa using this
theorem Ins.tail {w:World} {b off:Nat} {z:Int} {zs:List Int} (h:Ins w (some ⟨b,off,none⟩) (z :: zs)):Ins w (some ⟨b,off+1,none⟩) zs:=by
 refine ⟨fun y hy=>h.1 y (List.mem_cons_of_mem _ hy),fun hp=>?_⟩
 obtain ⟨b',o',he,hlt,hc⟩:=h.2 (by simp)
 obtain ⟨rfl,rfl⟩:b=b'/\off=o':=by simpa using he
 refine ⟨b,off+1,rfl,hlt,fun j hj=>?_⟩
 have:=hc (j+1) (by simpa using hj)
 rw [show off+1+j=off+(j+1) by omega]
 simpa using this
theorem zgc (s:Int) (y:Nat) (hs:0<=s/\s<16) (hy:y<2 ^ 4):bits BinOp.or IntKind.i64 (s*16) (y:Int) % 256=16*s+(y:Nat):=by
 obtain ⟨n,rfl⟩:=Int.eq_ofNat_of_zero_le hs.1;have e:(n:Int)*16=((n*16:Nat):Int):=by omega
 rw [e,z6l _ _ (by omega) (by omega)]
 have h1:n*16 ||| y=n*16+y:=by
  have:=Nat.two_pow_add_eq_or_of_lt hy n;rw [show n*16=2 ^ 4*n by omega]
  exact this.symm
 rw [h1]
 omega
theorem zlk (k:Nat) (h:k<=12):wrap64 (2 ^ k)=((2 ^ k:Nat):Int):=by
 have h2:2 ^ k<=2 ^ 12:=Nat.pow_le_pow_right (by omega) h
 have e:((2:Int) ^ k)=((2 ^ k:Nat):Int):=by simp
 rw [e];generalize 2 ^ k=P at *;exact IntWalk.wrap64_in _ (by omega)
def SR (w0 w:World) (B Q R:Nat) (rest:List Int):Prop:=∃ (la:Option Addr) (lc:Nat),w.heap[Q]?=some (.cells #[.slice la rest.length lc,.pointer (some ⟨R,0,none⟩)] 282 (0,0))/\Ins w0 la rest/\rest.length<=lc/\B<=Q
theorem SR.only {S:Nat->Prop} {w0 w w':World} {B Q R:Nat} {rest:List Int} (h:SR w0 w B Q R rest) (ho:Only S w w') (hs:¬S Q):SR w0 w' B Q R rest:=by
 obtain ⟨la,lc,h1,h2⟩:=h;exact ⟨la,lc,(ho.block Q (Array.getElem?_eq_some_iff.1 h1).1 hs).trans h1,h2⟩
theorem SR.ne {w0 w:World} {B Q R:Nat} {rest:List Int} {a:Option Addr} {L cx N p:Nat} (h:SR w0 w B Q R rest) (hr:RD w B R a L cx N p):¬Q=R:=by
 obtain ⟨la,lc,h1,h2⟩:=h;rintro rfl;have:=h1.symm.trans hr.1
 simp at this
theorem SR.set {w0 w:World} {B Q R:Nat} {la la2:Option Addr} {k lc:Nat} {rest:List Int} {lc2:Nat} (h:w.heap[Q]?=some (.cells #[.slice la k lc,.pointer (some ⟨R,0,none⟩)] 282 (0,0))) (hi:Ins w0 la2 rest) (hl:rest.length<=lc2) (hB:B<=Q):SR w0 (w.setCell ⟨Q,0,none⟩ (.slice la2 rest.length lc2)) B Q R rest:=by
 refine ⟨la2,lc2,?_,hi,hl,hB⟩;rw [heap_setCell_same _ Q 0 _ _ _ h]
 simp
theorem zbn (w:World) (a:Option Addr):Ins w a []:=⟨by simp,fun h=>by simp at h⟩
theorem zf7 (B Q R:Nat) (s:Int) (t:List Int) (x:Option Addr) (cx:Nat) (zs:List Int) (N V p:Nat) (w0 w:World) (hB:w0.heap.size=B) (hbel:Below B w0 w) (hS:SR w0 w B Q R (s :: t)) (hR:RD w B R x zs.length cx N p) (hb:Byt w0 x zs) (hz:zs=enc N V) (hN:N<=4096) (hp:p+4<=N) (hs:0<=s/\s<16) :
  Calls Tryz.prog 230 #[.pointer (some ⟨Q,0,none⟩)] w fun e w'=>e=.returned (.tuple #[.int .u8 (16*s+(bt V p 4:Nat)),.nilIface])/\SR w0 w' B Q R t/\RD w' B R x zs.length cx N (p+4)/\Only (fun b=>b=Q\/b=R) w w':=by
 have hne:=hS.ne hR;have HC:=hR.yes V 4 (by omega) (hb.below hbel (by omega)) hz (by omega) (by omega) (by omega)
 obtain ⟨la,lc,h1,h2,h3,h4⟩:=hS;obtain ⟨ab,ao,rfl,hab,hac⟩:=h2.2 (by simp)
 have hc:=hac 0 (by simp)
 simp only [List.getD_cons_zero,Nat.add_zero] at hc
 have HI:Hid (Ins w0 (some ⟨ab,ao,none⟩) (s :: t)):=h2
 simp only [List.length_cons] at h1 h3
 have HC0:Hid (w0.cell? ⟨ab,ao,none⟩=some (.int .i64 s)):=hc;have hbt:=z00 V p 4;have hRB:=hR.2.1;have HOR:Hid (bits BinOp.or IntKind.i64 (s*16) ((bt V p 4:Nat):Int) % 256=16*s+(bt V p 4:Nat)/\True):=⟨zgc s _ hs hbt,trivial⟩;have HWB:Hid (Below B w0 w/\RD w B R x zs.length cx N p):=⟨hbel,hR⟩;have HTL:Hid (∃ k,t.length=k):=⟨_,rfl⟩;obtain ⟨k,hk⟩:=HTL.out;rw [hk] at h1 h3;have HK:Hid (t.length=k):=hk
 have HH:Hid (w.heap[Q]?=some (.cells #[.slice (some ⟨ab,ao,none⟩) (k+1) lc,.pointer (some ⟨R,0,none⟩)] 282 (0,0))):=h1;have c0:w.cell? ⟨Q,0,none⟩=some (.slice (some ⟨ab,ao,none⟩) (k+1) lc):=zd (j:=0) h1 rfl;have c1:w.cell? ⟨Q,1,none⟩=some (.pointer (some ⟨R,0,none⟩)):=zd (j:=1) h1 rfl;clear hR hb hz hac hc h2 hbel h1 hk HTL
 go_enter Tryz.func230,Tryz.ntmps230
 go_wp2_with fail
 refine HC.mono ?_;clear HC c0 c1;rintro e w2 ⟨rfl,hrd2,hon2,hb2⟩;have hxe:V / 2 ^ p % 2 ^ (4:Int).toNat=bt V p 4:=rfl;rw [hxe];have HH2:Hid (w2.heap[Q]?=some (.cells #[.slice (some ⟨ab,ao,none⟩) (k+1) lc,.pointer (some ⟨R,0,none⟩)] 282 (0,0))):=(hon2.block Q (Array.getElem?_eq_some_iff.1 HH.out).1 hne).trans HH.out;have HS2:Hid (RD w2 B R x zs.length cx N (p+4)/\Only (fun b=>b=R) w w2):=⟨hrd2,hon2⟩
 have c0:w2.cell? ⟨Q,0,none⟩=some (.slice (some ⟨ab,ao,none⟩) (k+1) lc):=zd (j:=0) HH2.out rfl;have f0:w2.frozen? ⟨Q,0,none⟩=false:=frozen_of_row w2 Q 0 _ _ HH2.out;have hc2:w2.cell? ⟨ab,ao,none⟩=some (.int .i64 s):=keep (HWB.out.1.trans hb2) (by omega) HC0.out
 clear hrd2 hon2 hb2 hxe HH;generalize hyy:bt V p 4=y at *;have HYE:Hid (bt V p 4=y/\True):=⟨hyy,trivial⟩;clear hyy;have HFIN:Hid (∀ la2 lc2,Ins w0 la2 t->k<=lc2->SR w0 (w2.setCell ⟨Q,0,none⟩ (.slice la2 k lc2)) B Q R t/\RD (w2.setCell ⟨Q,0,none⟩ (.slice la2 k lc2)) B R x zs.length cx N (p+4)/\Only (fun b=>b=Q\/b=R) w (w2.setCell ⟨Q,0,none⟩ (.slice la2 k lc2))):=by
  intro la2 lc2 hi hl
  have h9:=SR.set (w0:=w0) (B:=B) (lc2:=lc2) HH2.out hi (by rw [HK.out];exact hl) h4
  rw [HK.out] at h9;refine ⟨h9,HS2.out.1.only (Only.setCell (Only.refl (fun b=>b=Q) w2) (p:=⟨Q,0,none⟩) (.inl rfl) _) (fun h=>hne h.symm),?_⟩
  exact Only.setCell (HS2.out.2.mono (fun b _ hb=>.inr hb)) (p:=⟨Q,0,none⟩) (.inl (.inl rfl)) _
 by_cases hl1:lc=1
 ·subst hl1
  have hk0:k=0:=by omega
  subst hk0;have ht0:t=[]:=List.eq_nil_of_length_eq_zero HK.out;go_wp2;exact bodyPost_ret (v:=.tuple #[.int .u8 (16*s+(y:Nat)),.nilIface]) (by simp [results,Tryz.results230,go_sem,HOR.out.1]) rfl ⟨by rw [HYE.out.1],HFIN.out _ _ (by rw [ht0];exact zbn _ _) (by omega)⟩
 ·go_wp2
  exact bodyPost_ret (v:=.tuple #[.int .u8 (16*s+(y:Nat)),.nilIface]) (by simp [results,Tryz.results230,go_sem,HOR.out.1]) rfl ⟨by rw [HYE.out.1],HFIN.out _ _ HI.out.tail (by omega)⟩
theorem zg7 (B Q R:Nat) (rest:List Int) (x:Option Addr) (cx:Nat) (zs:List Int) (N p:Nat) (w0 w:World) (hB:w0.heap.size=B) (hbel:Below B w0 w) (hS:SR w0 w B Q R rest) (hR:RD w B R x zs.length cx N p) (hN:N<=4096) (hpN:p<=N) (hp:¬p+4<=N) (s0:Sent w0 17) (s1:Sent w0 18) (hG:17<B/\18<B) :
  Calls Tryz.prog 230 #[.pointer (some ⟨Q,0,none⟩)] w fun e w'=>(∃ T y,e=.returned (.tuple #[.int .u8 0,.iface T y]))/\∃ m,w'=w.drewN m:=by
 have HC:=hR.no 4 (by omega) (by omega) (s0.below hbel hG.1) (s1.below hbel hG.2) (by omega)
 obtain ⟨la,lc,h1,h2,h3,h4⟩:=hS;have c0:w.cell? ⟨Q,0,none⟩=some (.slice la rest.length lc):=zd (j:=0) h1 rfl;have c1:w.cell? ⟨Q,1,none⟩=some (.pointer (some ⟨R,0,none⟩)):=zd (j:=1) h1 rfl;clear hR h1 h2 s0 s1 hbel
 go_enter Tryz.func230,Tryz.ntmps230
 go_wp2_with fail
 refine HC.mono ?_;clear HC c0 c1;rintro e w2 ⟨⟨T,y,rfl⟩,m,rfl⟩;go_wp2;exact bodyPost_ret (v:=.tuple #[.int .u8 0,.iface T y]) (by simp [results,Tryz.results230,go_sem]) rfl ⟨⟨T,y,rfl⟩,m,rfl⟩
theorem z78 (B Q R:Nat) (s:Int) (t:List Int) (x:Option Addr) (cx:Nat) (zs:List Int) (N V p:Nat) (w0 w:World) (hB:w0.heap.size=B) (hbel:Below B w0 w) (hS:SR w0 w B Q R (s :: t)) (hR:RD w B R x zs.length cx N p) (hb:Byt w0 x zs) (hz:zs=enc N V) (hN:N<=4096) (f:Int) (hf:f=16\/f=28) (hs:f<=s/\s<f+12) (hp:p+(s-f).toNat<=N) :
  Calls Tryz.prog 231 #[.pointer (some ⟨Q,0,none⟩),.int .i64 f] w fun e w'=>e=.returned (.tuple #[.int .i64 ((2 ^ (s-f).toNat+bt V p (s-f).toNat:Nat):Int),.nilIface])/\SR w0 w' B Q R t/\RD w' B R x zs.length cx N (p+(s-f).toNat)/\Only (fun b=>b=Q\/b=R) w w':=by
 have hne:=hS.ne hR;have HC:=hR.yes V (s-f) (by omega) (hb.below hbel (by omega)) hz (by omega) (by omega) (by omega)
 obtain ⟨la,lc,h1,h2,h3,h4⟩:=hS;obtain ⟨ab,ao,rfl,hab,hac⟩:=h2.2 (by simp)
 have hc:=hac 0 (by simp)
 simp only [List.getD_cons_zero,Nat.add_zero] at hc
 have HI:Hid (Ins w0 (some ⟨ab,ao,none⟩) (s :: t)):=h2
 simp only [List.length_cons] at h1 h3
 have HC0:Hid (w0.cell? ⟨ab,ao,none⟩=some (.int .i64 s)):=hc;have hbt:=z00 V p (s-f).toNat;have hRB:=hR.2.1;have HOR:Hid (wrap64 (wrap64 (2 ^ (s-f).toNat)+((bt V p (s-f).toNat:Nat):Int))=((2 ^ (s-f).toNat+bt V p (s-f).toNat:Nat):Int)/\True):=by
  refine ⟨?_,trivial⟩;rw [zlk _ (by omega)]
  have hpw:2 ^ (s-f).toNat<=2 ^ 11:=Nat.pow_le_pow_right (by omega) (by omega)
  generalize 2 ^ (s-f).toNat=P at *;generalize bt V p (s-f).toNat=y at *;rw [IntWalk.wrap64_in _ (by omega)]
  omega
 have HWB:Hid (Below B w0 w/\RD w B R x zs.length cx N p):=⟨hbel,hR⟩;have HTL:Hid (∃ k,t.length=k):=⟨_,rfl⟩;obtain ⟨k,hk⟩:=HTL.out;rw [hk] at h1 h3;have HK:Hid (t.length=k):=hk;have HH:Hid (w.heap[Q]?=some (.cells #[.slice (some ⟨ab,ao,none⟩) (k+1) lc,.pointer (some ⟨R,0,none⟩)] 282 (0,0))):=h1;have c0:w.cell? ⟨Q,0,none⟩=some (.slice (some ⟨ab,ao,none⟩) (k+1) lc):=zd (j:=0) h1 rfl;have c1:w.cell? ⟨Q,1,none⟩=some (.pointer (some ⟨R,0,none⟩)):=zd (j:=1) h1 rfl
 clear hR hb hz hac hc h2 hbel h1 hk HTL;have hcw:w.cell? ⟨ab,ao,none⟩=some (.int .i64 s):=keep HWB.out.1 (by omega) HC0.out
 go_enter Tryz.func231,Tryz.ntmps231
 go_wp2_with fail
 refine HC.mono ?_;clear HC c0 c1;rintro e w2 ⟨rfl,hrd2,hon2,hb2⟩;have hxe:V / 2 ^ p % 2 ^ (s-f).toNat=bt V p (s-f).toNat:=rfl;rw [hxe];have HH2:Hid (w2.heap[Q]?=some (.cells #[.slice (some ⟨ab,ao,none⟩) (k+1) lc,.pointer (some ⟨R,0,none⟩)] 282 (0,0))):=(hon2.block Q (Array.getElem?_eq_some_iff.1 HH.out).1 hne).trans HH.out;have HS2:Hid (RD w2 B R x zs.length cx N (p+(s-f).toNat)/\Only (fun b=>b=R) w w2):=⟨hrd2,hon2⟩
 have c0:w2.cell? ⟨Q,0,none⟩=some (.slice (some ⟨ab,ao,none⟩) (k+1) lc):=zd (j:=0) HH2.out rfl;have f0:w2.frozen? ⟨Q,0,none⟩=false:=frozen_of_row w2 Q 0 _ _ HH2.out;have hc2:w2.cell? ⟨ab,ao,none⟩=some (.int .i64 s):=keep (HWB.out.1.trans hb2) (by omega) HC0.out
 clear hrd2 hon2 hb2 hxe HH;generalize hyy:bt V p (s-f).toNat=y at *;have HYE:Hid (bt V p (s-f).toNat=y/\True):=⟨hyy,trivial⟩;clear hyy;have HFIN:Hid (∀ la2 lc2,Ins w0 la2 t->k<=lc2->SR w0 (w2.setCell ⟨Q,0,none⟩ (.slice la2 k lc2)) B Q R t/\RD (w2.setCell ⟨Q,0,none⟩ (.slice la2 k lc2)) B R x zs.length cx N (p+(s-f).toNat)/\Only (fun b=>b=Q\/b=R) w (w2.setCell ⟨Q,0,none⟩ (.slice la2 k lc2))):=by
  intro la2 lc2 hi hl
  have h9:=SR.set (w0:=w0) (B:=B) (lc2:=lc2) HH2.out hi (by rw [HK.out];exact hl) h4
  rw [HK.out] at h9;refine ⟨h9,HS2.out.1.only (Only.setCell (Only.refl (fun b=>b=Q) w2) (p:=⟨Q,0,none⟩) (.inl rfl) _) (fun h=>hne h.symm),?_⟩
  exact Only.setCell (HS2.out.2.mono (fun b _ hb=>.inr hb)) (p:=⟨Q,0,none⟩) (.inl (.inl rfl)) _
 by_cases hl1:lc=1
 ·subst hl1
  have hk0:k=0:=by omega
  subst hk0;have ht0:t=[]:=List.eq_nil_of_length_eq_zero HK.out;go_wp2;exact bodyPost_ret (v:=.tuple #[.int .i64 ((2 ^ (s-f).toNat+y:Nat):Int),.nilIface]) (by simp [results,Tryz.results231,go_sem,HOR.out.1]) rfl ⟨by rw [HYE.out.1],HFIN.out _ _ (by rw [ht0];exact zbn _ _) (by omega)⟩
 ·go_wp2
  exact bodyPost_ret (v:=.tuple #[.int .i64 ((2 ^ (s-f).toNat+y:Nat):Int),.nilIface]) (by simp [results,Tryz.results231,go_sem,HOR.out.1]) rfl ⟨by rw [HYE.out.1],HFIN.out _ _ HI.out.tail (by omega)⟩
theorem z8x (B Q R:Nat) (rest:List Int) (x:Option Addr) (cx:Nat) (zs:List Int) (N p:Nat) (w0 w:World) (hB:w0.heap.size=B) (hbel:Below B w0 w) (hS:SR w0 w B Q R rest) (hR:RD w B R x zs.length cx N p) (hN:N<=4096) (hpN:p<=N) (f:Int) (hf:f=16\/f=28) (hr:∀ z ∈ rest,0<=z/\z<40) (hp:∀ s t,rest=s :: t->f<=s/\s<f+12->¬p+(s-f).toNat<=N) (s0:Sent w0 17) (s1:Sent w0 18) (s2:Sent w0 22) (hG:17<B/\18<B/\22<B) :
  Calls Tryz.prog 231 #[.pointer (some ⟨Q,0,none⟩),.int .i64 f] w fun e w'=>(∃ T y,e=.returned (.tuple #[.int .i64 0,.iface T y]))/\∃ m,w'=w.drewN m:=by
 obtain ⟨la,lc,h1,h2,h3,h4⟩:=hS;have c0:w.cell? ⟨Q,0,none⟩=some (.slice la rest.length lc):=zd (j:=0) h1 rfl;have c1:w.cell? ⟨Q,1,none⟩=some (.pointer (some ⟨R,0,none⟩)):=zd (j:=1) h1 rfl;have HE:Hid (Sent w0 17/\Sent w0 18/\RD w B R x zs.length cx N p/\Below B w0 w):=⟨s0,s1,hR,hbel⟩;obtain ⟨T9,y9,he9⟩:=s2.below hbel hG.2.2
 cases rest with
 | nil=>
  clear hr hp h1 h2 s0 s1 s2 hR hbel
  simp only [List.length_nil] at c0
  go_enter Tryz.func231,Tryz.ntmps231
  go_wp2
  go_quiet (fail)
  go_wp2
  exact bodyPost_ret (v:=.tuple #[.int .i64 0,.iface T9 y9]) (by simp [results,Tryz.results231,go_sem]) rfl ⟨⟨_,_,rfl⟩,_,rfl⟩
 | cons s t=>
  obtain ⟨ab,ao,rfl,hab,hac⟩:=h2.2 (by simp)
  have hc0:=hac 0 (by simp)
  simp only [List.getD_cons_zero,Nat.add_zero] at hc0
  have hc:=keep hbel (by omega) hc0
  have hsr:=hr s (by simp)
  have hp':=hp s t rfl
  simp only [List.length_cons] at c0
  clear hr hp h1 h2 s0 s1 s2 hR hbel hac hc0;generalize t.length=k at *
  by_cases hlo:f<=s
  ·by_cases hhi:s<f+12
   ·have hno:=hp' ⟨hlo,hhi⟩
    have HC:=HE.out.2.2.1.no (s-f) (by omega) (by omega) (HE.out.1.below HE.out.2.2.2 hG.1) (HE.out.2.1.below HE.out.2.2.2 hG.2.1) (by omega)
    clear hp'
    go_enter Tryz.func231,Tryz.ntmps231
    go_wp2_with fail
    refine HC.mono ?_;clear HC c0 c1;rintro e w2 ⟨⟨T,y,rfl⟩,m,rfl⟩;go_wp2;exact bodyPost_ret (v:=.tuple #[.int .i64 0,.iface T y]) (by simp [results,Tryz.results231,go_sem]) rfl ⟨⟨T,y,rfl⟩,m,rfl⟩
   ·clear hp'
    go_enter Tryz.func231,Tryz.ntmps231
    go_wp2
    go_quiet (fail)
    go_wp2
    exact bodyPost_ret (v:=.tuple #[.int .i64 0,.iface T9 y9]) (by simp [results,Tryz.results231,go_sem]) rfl ⟨⟨_,_,rfl⟩,_,rfl⟩
  ·clear hp'
   go_enter Tryz.func231,Tryz.ntmps231
   go_wp2
   go_quiet (fail)
   go_wp2
   exact bodyPost_ret (v:=.tuple #[.int .i64 0,.iface T9 y9]) (by simp [results,Tryz.results231,go_sem]) rfl ⟨⟨_,_,rfl⟩,_,rfl⟩
theorem zap (B Q R:Nat) (rest:List Int) (w0 w:World) (hB:w0.heap.size=B) (hbel:Below B w0 w) (hS:SR w0 w B Q R rest) (hr:∀ z ∈ rest,0<=z/\z<40) :
  Calls Tryz.prog 229 #[.pointer (some ⟨Q,0,none⟩)] w fun e w'=>e=.returned (.bool (decide (0<rest.length/\rest.getD 0 0<16)))/\w'=w:=by
 obtain ⟨la,lc,h1,h2,h3,h4⟩:=hS;have c0:w.cell? ⟨Q,0,none⟩=some (.slice la rest.length lc):=zd (j:=0) h1 rfl
 cases rest with
 | nil=>
  simp only [List.length_nil] at c0
  go_enter Tryz.func229,Tryz.ntmps229
  go_wp2
  go_ret;exact ⟨by simp,rfl⟩
 | cons s t=>
  obtain ⟨ab,ao,rfl,hab,hac⟩:=h2.2 (by simp)
  have hc0:=hac 0 (by simp)
  simp only [List.getD_cons_zero,Nat.add_zero] at hc0
  have hc:=keep hbel (by omega) hc0
  have hsr:=hr s (by simp)
  simp only [List.length_cons] at c0
  have HG:Hid (decide (0<(s :: t).length/\(s :: t).getD 0 0<16)=decide (s<16)):=by simp [Hid]
  clear hr h1 h2 hac hc0;rw [HG.out];generalize t.length=k at *
  go_enter Tryz.func229,Tryz.ntmps229
  go_wp2
  go_ret;exact ⟨by simp,rfl⟩
structure Sq where
 a:Option Addr
 c:Nat
 ls:List Int
 n:Int
 d:Int
def Sq.ct (s:Sq):List Int × Int × Int:=(s.ls,s.n,s.d)
def dq :Sq:=⟨none,0,[],0,0⟩
def rI (z:Int):Prop:=-9223372036854775808<=z/\z<=9223372036854775807
def Sq.cells (s:Sq):List Value:=[.slice s.a s.ls.length s.c,.int .i64 s.n,.int .i64 s.d]
structure Lies (w:World) (b o:Nat) (s:Sq):Prop where
 c0:w.cell? ⟨b,o,none⟩=some (.slice s.a s.ls.length s.c)
 c1:w.cell? ⟨b,o+1,none⟩=some (.int .i64 s.n)
 c2:w.cell? ⟨b,o+2,none⟩=some (.int .i64 s.d)
 byt:Byt w s.a s.ls
def Sqs (w:World) (a:Option Addr) (ss:List Sq):Prop:=
 (∀ s ∈ ss,rI s.n/\rI s.d/\s.ls.length<=maxLen)/\(0<ss.length->∃ b off,a=some ⟨b,off,none⟩/\b<w.heap.size/\∀ i,i<ss.length->Lies w b (off+i*3) (ss.getD i dq))
theorem Lies.below {w w':World} {b o:Nat} {s:Sq} {B:Nat} (h:Lies w b o s) (hb:Below B w w') (hB:w.heap.size<=B) (hlt:b<w.heap.size):Lies w' b o s:=
 ⟨keep hb (by omega) h.c0,keep hb (by omega) h.c1,keep hb (by omega) h.c2,h.byt.below hb hB⟩
theorem Sqs.below {w w':World} {a:Option Addr} {ss:List Sq} {B:Nat} (h:Sqs w a ss) (hb:Below B w w') (hB:w.heap.size<=B):Sqs w' a ss:=by
 refine ⟨h.1,fun hz=>?_⟩
 obtain ⟨b,off,rfl,hlt,hc⟩:=h.2 hz;exact ⟨b,off,rfl,Nat.lt_of_lt_of_le hlt hb.size,fun i hi=>(hc i hi).below hb hB hlt⟩
theorem Sqs.len_pos {w:World} {a:Option Addr} {ss:List Sq} (h:Sqs w a ss) (i:Nat) (hi:i<ss.length):∃ b off,a=some ⟨b,off,none⟩/\b<w.heap.size/\∀ i,i<ss.length->Lies w b (off+i*3) (ss.getD i dq):=h.2 (by omega)
theorem z2z {ss:List Sq} {k:Nat} (hk:k<ss.length):ss.getD k dq ∈ ss:=by
 rw [List.getD_eq_getElem?_getD,List.getElem?_eq_getElem hk];exact List.getElem_mem hk
theorem Sqs.rng {w:World} {a:Option Addr} {ss:List Sq} (h:Sqs w a ss) (k:Nat) (hk:k<ss.length):rI (ss.getD k dq).n/\rI (ss.getD k dq).d/\(ss.getD k dq).ls.length<=maxLen:=h.1 _ (z2z hk)
theorem zhe (ss:List Sq):∀ k,k<ss.length->(ss.flatMap Sq.cells)[k*3]?=some (.slice (ss.getD k dq).a (ss.getD k dq).ls.length (ss.getD k dq).c)/\(ss.flatMap Sq.cells)[k*3+1]?=some (.int .i64 (ss.getD k dq).n)/\(ss.flatMap Sq.cells)[k*3+2]?=some (.int .i64 (ss.getD k dq).d):=by
 induction ss with
 | nil=>intro k hk;simp at hk
 | cons s ss ih=>
  intro k hk
  cases k with
  | zero=>simp [List.flatMap_cons,Sq.cells]
  | succ k=>
   have:=ih k (by simpa using hk)
   rw [List.flatMap_cons,show (k+1)*3=k*3+3 from by omega]
   simpa [Sq.cells] using this
structure OwS (w:World) (B g cap:Nat) (ss:List Sq):Prop where
 row:w.ownsRow B 209 3 (.slice (some ⟨g,0,none⟩) ss.length cap) ss.length (ss.flatMap Sq.cells)
 rng:∀ s ∈ ss,rI s.n/\rI s.d/\s.ls.length<=maxLen
 mine:∀ s ∈ ss,Mine w B w.heap.size s.a s.c s.ls
 apart:∀ i j,i<ss.length->j<ss.length->i≠j->∀ k,zg (ss.getD i dq).a k->¬zg (ss.getD j dq).a k
section
variable {w w' : World} {B g cap : Nat} {ss : List Sq}
theorem Mine.rowB {a:Option Addr} {U c k:Nat} {zs:List Int} (h:Mine w B U a c zs) (hr:zg a k):B<=k/\k<U:=by
 obtain ⟨x,hx,rfl⟩:=hr;rcases h with ⟨h',_⟩ | ⟨g,h',g1,g2,_⟩
 ·rw [h'] at hx;cases hx
 ·rw [h'] at hx
  simp at hx
  rw [<-hx];exact ⟨g1,g2⟩
end
theorem Tryz.infoSeq :(Tryz.prog.info? 209).map (fun i=>(i.zero,i.size,i.bytes))=some (some (.agg #[.slice none 0 0,.int .i64 0,.int .i64 0]),3,40):=by kernel_rfl
end Go.Proofs.YtaibkchbkedjnaaGreatDoor
