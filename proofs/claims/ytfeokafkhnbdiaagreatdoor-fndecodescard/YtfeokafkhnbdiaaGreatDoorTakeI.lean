/- Lemmas on the way. -/
import Derived.Test.YtfeokafkhnbdiaaGreatDoorSy1
import Derived.BigQuiet
import Derived.Test.YtfeokafkhnbdiaaGreatDoorLPut
import Derived.Test.YtfeokafkhnbdiaaGreatDoorEnL
import Derived.Test.YtfeokafkhnbdiaaGreatDoorHPut3
import Derived.Test.YtfeokafkhnbdiaaGreatDoorWidth
set_option maxRecDepth 20000
set_option maxHeartbeats 16000000
namespace Go.Proofs.YtfeokafkhnbdiaaGreatDoor
open Go.RowKit
set_option linter.unusedVariables false
theorem RD.left {w:World} {B R:Nat} {a:Option Addr} {L cap n p:Nat} (h:RD w B R a L cap n p) (hn:n≤4104) (hp:p≤4104) :
  Calls Tryz.prog 67 #[.pointer (some ⟨R,0,none⟩)] w fun e w'=>e=.returned (.int .i64 ((n:Int)-p))∧∃ m,w'=w.drewN m:=by
 have c0:=cellRR (j:=0) h.1 rfl
 have c1:=cellRR (j:=1) h.1 rfl
 have c2:=cellRR (j:=2) h.1 rfl
 clear h
 go_enter Tryz.func67,Tryz.ntmps67
 go_wp2
 go_quiet (fail)
 go_wp2
 go_ret
 exact ⟨rfl,_,rfl⟩
def bt (V p k:Nat):Nat:=V / 2 ^ p % 2 ^ k
theorem bt_lt (V p k:Nat):bt V p k<2 ^ k:=Nat.mod_lt _ (Nat.two_pow_pos k)
theorem bt_split (V p a b:Nat):bt V p (a+b)=bt V p a+2 ^ a*bt V (p+a) b:=by
 unfold bt
 rw [Nat.pow_add,Nat.mod_mul,Nat.div_div_eq_div_mul,←Nat.pow_add]
theorem bt_zero (V p:Nat):bt V p 0=0:=by unfold bt;simp [Nat.mod_one]
def gq (n V s:Nat):Nat→Nat→List Int→Option (List Int × Nat)
 | 0,p,out=>some (out,p)
 | f+1,p,out=>if out.length<s then (if p+4≤n then (if bt V p 4=0 then (if p+7≤n then gq n V s f (p+7) (out++[0]++List.replicate (bt V (p+4) 3) 0) else none) else gq n V s f (p+4) (out++[((bt V p 4:Nat):Int)])) else none) else some (out,p)
def gi (n V s:Nat):Nat→Nat→List Int→Bool→Option (List Int × Nat)
 | 0,p,out,e=>some (out,p)
 | f+1,p,out,e=>if out.length<s then (if p+4≤n then (if bt V p 4=0 then (if p+7≤n then (if e=true∨s<out.length+1+bt V (p+4) 3 then none else gi n V s f (p+7) (out++[0]++List.replicate (bt V (p+4) 3) 0) (decide (bt V (p+4) 3<7))) else none) else gi n V s f (p+4) (out++[((bt V p 4:Nat):Int)]) false) else none) else some (out,p)
theorem gi_end {n V s f q:Nat} {out:List Int} {e:Bool} (h:¬out.length<s):gi n V s f q out e=some (out,q):=by
 cases f with
 | zero=>rfl
 | succ f=>simp only [gi];rw [if_neg h]
theorem gi_4 {n V s f q:Nat} {out:List Int} {e:Bool} (h:out.length<s) (h4:¬q+4≤n):gi n V s (f+1) q out e=none:=by simp only [gi];rw [if_pos h,if_neg h4]
theorem gi_pos {n V s f q:Nat} {out:List Int} {e:Bool} (h:out.length<s) (h4:q+4≤n) (hx:¬bt V q 4=0):gi n V s (f+1) q out e=gi n V s f (q+4) (out++[((bt V q 4:Nat):Int)]) false:=by simp only [gi];rw [if_pos h,if_pos h4,if_neg hx]
theorem gi_7 {n V s f q:Nat} {out:List Int} {e:Bool} (h:out.length<s) (h4:q+4≤n) (hx:bt V q 4=0) (h7:¬q+7≤n):gi n V s (f+1) q out e=none:=by simp only [gi];rw [if_pos h,if_pos h4,if_pos hx,if_neg h7]
theorem gi_bad {n V s f q:Nat} {out:List Int} {e:Bool} (h:out.length<s) (hx:bt V q 4=0) (h7:q+7≤n) (hb:e=true∨s<out.length+1+bt V (q+4) 3):gi n V s (f+1) q out e=none:=by simp only [gi];rw [if_pos h,if_pos (by omega),if_pos hx,if_pos h7,if_pos hb]
theorem gi_zero {n V s f q:Nat} {out:List Int} {e:Bool} (h:out.length<s) (hx:bt V q 4=0) (h7:q+7≤n) (hb:¬(e=true∨s<out.length+1+bt V (q+4) 3)):gi n V s (f+1) q out e=gi n V s f (q+7) (out++[0]++List.replicate (bt V (q+4) 3) 0) (decide (bt V (q+4) 3<7)):=by simp only [gi];rw [if_pos h,if_pos (by omega),if_pos hx,if_pos h7,if_neg hb]
def lenS :Value→Nat
 | .slice _ n _=>n
 | _=>0
theorem nou_rep (k:Nat) (t:List Int):nou (List.replicate k 0++t)=k+nou t:=by
 induction k with
 | zero=>simp
 | succ k ih=>rw [List.replicate_succ,List.cons_append];simp only [nou,if_true];rw [ih];omega
theorem run_app (out rest:List Int) (k:Nat):run (out++[0]++List.replicate k 0++rest) out.length=min (k+nou rest) 7:=by
 unfold run
 have e:(out++[0]++List.replicate k 0++rest).drop (out.length+1)=List.replicate k 0++rest:=by
  have h:out.length+1=(out++[(0:Int)]).length:=by simp
  rw [List.append_assoc,h,List.drop_left]
 rw [e,nou_rep]
theorem nou_head {t:List Int} (h:0<t.length→t.getD 0 0≠0):nou t=0:=by
 cases t with
 | nil=>rfl
 | cons z t=>simp only [nou];rw [if_neg (by simpa using h (by simp))]
theorem getD_app0 (out rest:List Int):(out++rest).getD out.length 0=rest.getD 0 0:=by
 rw [List.getD_eq_getElem?_getD,List.getElem?_append_right nl,Nat.sub_self,List.getD_eq_getElem?_getD]
theorem gi_yes (n V s:Nat) (f:Nat):∀ (p:Nat) (out:List Int) (e:Bool) (res:List Int) (q:Nat),s≤f+out.length→out.length≤s→gi n V s f p out e=some (res,q) →
  (∃ rest,res=out++rest)∧res.length=s∧p≤q∧(e=true→out.length<s→res.getD out.length 0≠0)∧(∀ f' N U,s≤f'+out.length→lp res f' out.length N U=(N+(q-p),U+bt V p (q-p)*2 ^ N))∧gq n V s f p out=some (res,q):=by
 induction f with
 | zero=>
  intro p out e res q hf ho h
  simp only [gi,Option.some.injEq,Prod.mk.injEq] at h
  obtain ⟨rfl,rfl⟩:=h
  refine ⟨⟨[],by simp⟩,by omega,Nat.le_refl _,fun _ h=>absurd h (by omega),fun f' N U _=>?_,rfl⟩
  rw [lp_end _ _ _ _ _ (by omega),Nat.sub_self,bt_zero]
  simp
 | succ f ih=>
  intro p out e res q hf ho h
  simp only [gi] at h
  by_cases h1:out.length<s
  ·rw [if_pos h1] at h
   by_cases h2:p+4≤n
   ·rw [if_pos h2] at h
    by_cases h3:bt V p 4=0
    ·rw [if_pos h3] at h
     by_cases h4:p+7≤n
     ·rw [if_pos h4] at h
      have hk:=bt_lt V (p+4) 3
      generalize hke:bt V (p+4) 3=k at *
      by_cases h5:e=true∨s<out.length+1+k
      ·rw [if_pos h5] at h
       cases h
      ·rw [if_neg h5] at h
       have hl:(out++[0]++List.replicate k 0).length=out.length+1+k:=by simp;omega
       obtain ⟨⟨rest,hr⟩,r1,r2,r3,r4,r5⟩:=ih (p+7) (out++[0]++List.replicate k 0) (decide (k<7)) res q (by omega) (by omega) h
       have hrun:run res out.length=k:=by
        rw [hr,run_app]
        by_cases h7:k<7
        ·rw [nou_head (t:=rest) (fun hp=>?_)]
         ·omega
         ·have h8:=r3 (by simpa using h7) (by rw [hr,List.length_append] at r1;omega)
          rw [hr,getD_app0] at h8
          exact h8
        ·omega
       have hz:res.getD out.length 0=0:=by
        rw [hr,List.append_assoc,List.append_assoc,getD_app0]
        rfl
       refine ⟨⟨[0]++List.replicate k 0++rest,by rw [hr];simp⟩,r1,by omega,fun he=>absurd (Or.inl he) h5,fun f' N U hf'=>?_,?_⟩
       ·obtain ⟨g,rfl⟩:∃ g,f'=g+1:=⟨f' - 1,by omega⟩
        rw [lp_zero _ _ _ _ _ (by omega) hz,hrun]
        rw [hl] at r4
        rw [r4 g (N+7) _ (by omega),show q-p=4+(3+(q-(p+7))) by omega,bt_split,h3,bt_split,hke,show p+4+3=p+7 from rfl]
        generalize bt V (p+7) (q-(p+7))=u
        simp only [Prod.mk.injEq]
        refine ⟨by omega,?_⟩
        rw [Nat.pow_add,Nat.pow_add]
        generalize 2 ^ N=P
        grind
       ·simp only [gq]
        rw [if_pos h1,if_pos h2,if_pos h3,if_pos h4,hke]
        exact r5
     ·rw [if_neg h4] at h
      cases h
    ·rw [if_neg h3] at h
     have hl:(out++[((bt V p 4:Nat):Int)]).length=out.length+1:=by simp
     obtain ⟨⟨rest,hr⟩,r1,r2,r3,r4,r5⟩:=ih (p+4) (out++[((bt V p 4:Nat):Int)]) false res q (by omega) (by omega) h
     have hz:res.getD out.length 0=((bt V p 4:Nat):Int):=by
      rw [hr,List.append_assoc,getD_app0]
      rfl
     refine ⟨⟨((bt V p 4:Nat):Int) :: rest,by rw [hr];simp⟩,r1,by omega,fun _ _=>by rw [hz];omega,fun f' N U hf'=>?_,?_⟩
     ·obtain ⟨g,rfl⟩:∃ g,f'=g+1:=⟨f' - 1,by omega⟩
      rw [lp_pos _ _ _ _ _ (by omega) (by rw [hz];omega),hz]
      rw [hl] at r4
      rw [r4 g (N+4) _ (by omega),show q-p=4+(q-(p+4)) by omega,bt_split,Int.toNat_natCast]
      generalize bt V (p+4) (q-(p+4))=u
      generalize bt V p 4=v
      simp only [Prod.mk.injEq]
      refine ⟨by omega,?_⟩
      rw [Nat.pow_add]
      generalize 2 ^ N=P
      grind
     ·simp only [gq]
      rw [if_pos h1,if_pos h2,if_neg h3]
      exact r5
   ·rw [if_neg h2] at h
    cases h
  ·rw [if_neg h1] at h
   simp only [Option.some.injEq,Prod.mk.injEq] at h
   obtain ⟨rfl,rfl⟩:=h
   refine ⟨⟨[],by simp⟩,by omega,Nat.le_refl _,fun _ h=>absurd h (by omega),fun f' N U _=>?_,?_⟩
   ·rw [lp_end _ _ _ _ _ (by omega),Nat.sub_self,bt_zero]
    simp
   ·simp only [gq]
    rw [if_neg h1]
set_option linter.unusedSimpArgs false
structure SentT (w:World):Prop where
 over:∃ pe,w.cell? ⟨11,0,none⟩=some (.iface 246 (.pointer (some pe)))
 full:∃ T x,w.cell? ⟨6,0,none⟩=some (.iface T x)
 lt:11<w.heap.size∧6<w.heap.size
theorem RD.store {w:World} {B R:Nat} {a:Option Addr} {L cap n p:Nat} (h:RD w B R a L cap n p) (q:Nat):RD (w.setCell ⟨R,2,none⟩ (.int .i64 (q:Nat))) B R a L cap n q:=
 ⟨by rw [heap_setCell_same _ R 2 _ _ _ h.1];simp,h.2.1,by simpa using h.2.2⟩
theorem take_yes (Q B:Nat) (a:Option Addr) (cap:Nat) (zs:List Int) (n V p k:Nat) (w:World) (hR:RD w B Q a zs.length cap n p) (hb:Byt w a zs) (hz:zs=enc n V) (hn:n≤4096) (hp:p+k≤n) (hS:SentT w) :
  Calls Tryz.prog 155 #[.pointer (some ⟨Q,0,none⟩),.int .i64 k] w fun e w'=>
   ∃ a' cp,e=.returned (.tuple #[.agg #[.slice a' (enc k (bt V p k)).length cp,.int .i64 k],.nilIface])∧Mine w' w.heap.size w'.heap.size a' cp (enc k (bt V p k))∧RD w' B Q a zs.length cap n (p+k)∧Only (fun b=>b=Q) w w':=by
 obtain ⟨pe,g0⟩:=hS.over
 obtain ⟨T1,x1,g1⟩:=hS.full
 have hQl:Q<w.heap.size:=(Array.getElem?_eq_some_iff.1 hR.1).1
 have HA:Hid (RD w B Q a zs.length cap n p∧Byt w a zs∧zs=enc n V∧SentT w∧w.cell? ⟨11,0,none⟩=some (.iface 246 (.pointer (some pe)))∧w.cell? ⟨6,0,none⟩=some (.iface T1 x1)):=⟨hR,hb,hz,hS,g0,g1⟩
 clear hb hz hS g0 g1
 have HAN:=Ans.new w
 have hR1:=hR.only ((Only.refl (fun _=>False) w).alloc (Obj.cells #[.slice none 0 0,.int .i64 0] 40)) (by simp)
 go_enter Tryz.func155,Tryz.ntmps155
 go_wp2_with fail
 refine (hR1.left (by omega) (by omega)).mono ?_
 rintro e w1 ⟨rfl,m1,rfl⟩
 have HAN1:Hid _:=HAN.step (below_drewN (Below.refl _ _) m1) HAN.lt
 have HR1:Hid (RD ((w.alloc (Obj.cells #[.slice none 0 0,.int .i64 0] 40)).drewN m1) B Q a zs.length cap n p):=hR1.only ((Only.refl (fun _=>False) _).drewN m1) (by simp)
 clear HAN hR1
 generalize (w.alloc (Obj.cells #[.slice none 0 0,.int .i64 0] 40)).drewN m1=W1 at *
 go_wp2_with fail
 refine (newWriter_any none 0 [] 0 4096 W1 ⟨by simp,by simp⟩ (by simp)).mono ?_
 rintro e w3 ⟨R,g,rfl,hRw,hown,hRge,hb3⟩
 have hRlt:R<w3.heap.size:=(Array.getElem?_eq_some_iff.1 hRw).1
 have hWlt:w.heap.size<W1.heap.size:=HAN1.out.lt
 have HAN3:Hid _:=HAN1.out.step hb3 HAN1.out.lt
 have hR3:RD w3 B Q a zs.length cap n p:=HR1.out.only (Only.ofBelow (S:=fun _=>False) hb3 nl) (by simp)
 have HW3:Hid _:=(⟨hRw,hown,hRge,hb3,hR3⟩:_∧_∧_∧_∧_)
 have c0:=cellRR (j:=0) hR3.1 rfl
 have c1:=cellRR (j:=1) hR3.1 rfl
 have c2:=cellRR (j:=2) hR3.1 rfl
 clear hRw hown hRge hb3 hR3 HAN1 HR1 hR
 go_wp2
 go_region
 go_wp2_with fail
 have hO4:Only (fun _=>False) w3 (w3.alloc (Obj.cells #[.slice a zs.length cap,.int .i64 ((p:Int)+(k:Int)),.int .i64 (p:Int)] 109)).drew:=((Only.refl (fun _=>False) w3).alloc _).drew
 have hQ4:(w3.alloc (Obj.cells #[.slice a zs.length cap,.int .i64 ((p:Int)+(k:Int)),.int .i64 (p:Int)] 109)).drew.heap[w3.heap.size]?=some (.cells #[.slice a zs.length cap,.int .i64 ((p+k:Nat):Int),.int .i64 (p:Nat)] 109 (0,0)):=heap_alloc_new w3 _
 generalize (w3.alloc (Obj.cells #[.slice a zs.length cap,.int .i64 ((p:Int)+(k:Int)),.int .i64 (p:Int)] 109)).drew=W4 at *
 have hb4:Below w3.heap.size w3 W4:=hO4.below nl (by simp)
 have hA4:=HAN3.out.step hb4 HAN3.out.lt
 have hRD4:RD W4 B Q a zs.length cap n p:=HW3.out.2.2.2.2.only hO4 (by simp)
 have hv4:OwnV W4 W1.heap.size (.slice (some ⟨g,0,none⟩) 0 0) (enc 0 0):=OwnV.only (S:=fun _=>False) HW3.out.2.1.v hO4 (by simp)
 have hRw4:=(hb4.block R hRlt).trans HW3.out.1
 have z34:=hb4.size
 have z13:=HW3.out.2.2.2.1.size
 have hSL:=HA.out.2.2.2.1.lt
 refine (pour_any R W1.heap.size w3.heap.size _ a cap zs 0 0 (p+k) n V p T1 pe x1 W4 hRw4 hv4 (by simp) (by omega) hQ4 (HA.out.2.1.below hA4.bel nl) HA.out.2.2.1 (by omega) (by omega) hn (by omega) HW3.out.2.2.1 z13 (by omega) ?_ (keep hA4.bel hSL.1 HA.out.2.2.2.2.1) (keep hA4.bel hSL.2 HA.out.2.2.2.2.2)).mono ?_
 ·intro hpz x hx
  obtain ⟨bb,off,he,hbl,_⟩:=HA.out.2.1.2 hpz
  rw [he] at hx
  simp at hx
  rw [←hx]
  simp
  omega
 rintro e w5 ⟨hb5,hyes,-⟩
 obtain ⟨rfl,v',hR5,hv5⟩:=hyes (by omega)
 rw [Nat.add_sub_cancel_left,Nat.zero_add,Nat.zero_add,Nat.pow_zero,Nat.mul_one] at hv5
 rw [Nat.add_sub_cancel_left,Nat.zero_add] at hR5
 have hv5':OwnV w5 W1.heap.size v' (enc k (bt V p k)):=hv5
 have hA5:=hA4.step hb5 hWlt
 have hRD5:RD w5 B Q a zs.length cap n p:=⟨(hb5.block Q (by omega)).trans hRD4.1,hRD4.2.1,Nat.le_trans hRD4.2.2 hb5.size⟩
 obtain ⟨a',cp,rfl,hmine⟩:=hv5'.mine
 have x0:=hA5.r0
 have x1:=hA5.r1
 have y0:=hA5.f0
 have y1:=hA5.f1
 generalize hES:enc k (bt V p k)=es at *
 have d0:w5.cell? ⟨R,0,none⟩=some (.slice a' es.length cp):=cellR (j:=0) hR5 rfl
 have d1:w5.cell? ⟨R,1,none⟩=some (.int .i64 (k:Nat)):=cellR (j:=1) hR5 rfl
 have c2':w5.cell? ⟨Q,2,none⟩=some (.int .i64 (p:Nat)):=cellRR (j:=2) hRD5.1 rfl
 have f2:=hRD5.frz 2
 have HF:Hid (Mine w5 W1.heap.size w5.heap.size a' cp es∧RD w5 B Q a zs.length cap n p∧Below w.heap.size w w5):=⟨hmine,hRD5,hA5.bel⟩
 have hRQ:R≠Q:=by have:=HW3.out.2.2.1;omega
 have hRs:w.heap.size≤R:=by have:=HW3.out.2.2.1;omega
 clear hmine hRD5 hA5 hv5 hv5' hR5 hyes hb5 hRw4 hv4 hRD4 hA4 hb4 hQ4 hO4 c0 c1 c2 HW3 HAN3 HA
 have HES:Hid (enc k (bt V p k)=es):=hES
 clear hES
 go_wp2
 refine bodyPost_ret (v:=.tuple #[.agg #[.slice a' es.length cp,.int .i64 (k:Nat)],.nilIface]) (by simp [results,Tryz.results155,go_sem,x0,x1]) rfl ⟨a',cp,by rw [HES.out],?_,?_,?_⟩
 ·rw [HES.out]
  have hO3:Only (fun b=>b=Q∨b=w.heap.size) w5 (((w5.setCell ⟨Q,2,none⟩ (.int .i64 ((p:Int)+(k:Int)))).setCell ⟨w.heap.size,0,none⟩ (.slice a' es.length cp)).setCell ⟨w.heap.size,1,none⟩ (.int .i64 (k:Nat))):=
   Only.setCell (Only.setCell (Only.setCell (Only.refl (fun b=>b=Q∨b=w.heap.size) w5) (p:=⟨Q,2,none⟩) (.inl (.inl rfl)) _) (p:=⟨w.heap.size,0,none⟩) (.inl (.inr rfl)) _) (p:=⟨w.heap.size,1,none⟩) (.inl (.inr rfl)) _
  exact ((HF.out.1.only hO3 (fun b h1 _=>by omega)).mono (by omega) (by simp [World.setCell]))
 ·have h1:=HF.out.2.1.store (p+k)
  have hO4:Only (fun b=>b=w.heap.size) (w5.setCell ⟨Q,2,none⟩ (.int .i64 ((p+k:Nat):Int))) (((w5.setCell ⟨Q,2,none⟩ (.int .i64 ((p+k:Nat):Int))).setCell ⟨w.heap.size,0,none⟩ (.slice a' es.length cp)).setCell ⟨w.heap.size,1,none⟩ (.int .i64 (k:Nat))):=
   Only.setCell (Only.setCell (Only.refl (fun b=>b=w.heap.size) _) (p:=⟨w.heap.size,0,none⟩) (.inl rfl) _) (p:=⟨w.heap.size,1,none⟩) (.inl rfl) _
  exact RD.only h1 hO4 (by omega)
 ·have h0:Only (fun b=>b=Q) w w5:=Only.ofBelow HF.out.2.2 nl
  exact Only.setCell (Only.setCell (Only.setCell h0 (p:=⟨Q,2,none⟩) (.inl rfl) _) (p:=⟨w.heap.size,0,none⟩) (.inr nl) _) (p:=⟨w.heap.size,1,none⟩) (.inr nl) _
theorem take_no (Q B:Nat) (a:Option Addr) (L cap n p k:Nat) (w:World) (hR:RD w B Q a L cap n p) (hn:n≤4096) (hp:p≤n) (hk:k≤8388608) (hpk:n<p+k) (hS:SentT w) :
  Calls Tryz.prog 155 #[.pointer (some ⟨Q,0,none⟩),.int .i64 k] w fun e w'=>
   ∃ T x,e=.returned (.tuple #[.agg #[.slice none 0 0,.int .i64 0],.iface T x])∧Below w.heap.size w w':=by
 obtain ⟨pe,g0⟩:=hS.over
 have HAN:=Ans.new w
 have hR1:=hR.only ((Only.refl (fun _=>False) w).alloc (Obj.cells #[.slice none 0 0,.int .i64 0] 40)) (by simp)
 have hSL:=hS.lt
 clear hS
 go_enter Tryz.func155,Tryz.ntmps155
 go_wp2_with fail
 refine (hR1.left (by omega) (by omega)).mono ?_
 rintro e w1 ⟨rfl,m1,rfl⟩
 have hA1:=HAN.step (below_drewN (Below.refl _ _) m1) HAN.lt
 clear HAN hR1 hR
 generalize (w.alloc (Obj.cells #[.slice none 0 0,.int .i64 0] 40)).drewN m1=W1 at *
 have g1:=keep hA1.bel hSL.1 g0
 have x0:=hA1.r0
 have x1:=hA1.r1
 have y0:=hA1.f0
 have y1:=hA1.f1
 have HB:Hid (Below w.heap.size w W1):=hA1.bel
 have hgl:11<w.heap.size:=hSL.1
 clear hA1 g0 hSL
 go_wp2
 go_region
 go_wp2
 refine bodyPost_ret (v:=.tuple #[.agg #[.slice none 0 0,.int .i64 0],.iface 246 (.pointer (some pe))]) (by simp [results,Tryz.results155,go_sem,x0,x1]) rfl ⟨_,_,rfl,?_⟩
 have hbb:=HB.out
 repeat (first | exact hbb | refine Below.setCell ?_ (by simp) _ | refine below_drewN ?_ _ | refine below_drew' ?_)
end Go.Proofs.YtfeokafkhnbdiaaGreatDoor
