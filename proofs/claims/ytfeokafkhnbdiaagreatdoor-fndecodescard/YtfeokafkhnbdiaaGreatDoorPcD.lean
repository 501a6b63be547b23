/- Lemmas on the way. -/
import Derived.Test.YtfeokafkhnbdiaaGreatDoorPcA
import Derived.Deep.RegionHeld3
import Derived.BigRegion
set_option maxRecDepth 20000
set_option maxHeartbeats 16000000
namespace Go.Proofs.YtfeokafkhnbdiaaGreatDoor
open Go.RowKit
set_option linter.unusedVariables false
set_option linter.unusedSimpArgs false
def dpc :Pc:=.coin 0 0
def Pcs (w:World) (a:Option Addr) (ps:List Pc):Prop:=
 0<ps.length→∃ b off,a=some ⟨b,off,none⟩∧b<w.heap.size∧∀ i,i<ps.length→w.cell? ⟨b,off+i,none⟩=some (ps.getD i dpc).vl
theorem Pcs.below {w w':World} {a:Option Addr} {ps:List Pc} (h:Pcs w a ps) (hb:Below w.heap.size w w'):Pcs w' a ps:=fun h0=>by
 obtain ⟨b,o,e,hl,hc⟩:=h h0
 exact ⟨b,o,e,Nat.lt_of_lt_of_le hl hb.size,fun i hi=>keep hb hl (hc i hi)⟩
def orZ (x y:Int):Int:=if x=0 then y else x
theorem or_any (g:Nat) (x y:Int) (w:World) (hx:w.cell? ⟨g,0,none⟩=some (.int .i64 x)) (hy:w.cell? ⟨g,1,none⟩=some (.int .i64 y)) :
  Calls Tryz.prog 188 #[.slice (some ⟨g,0,none⟩) 2 2] w fun e w'=>e=.returned (.int .i64 (orZ x y))∧w'=w:=by
 unfold orZ
 by_cases h0:x=0
 ·rw [if_pos h0]
  have d0:(x != 0)=false:=by simp [h0]
  by_cases h1:y=0
  ·have d1:(y != 0)=false:=by simp [h1]
   go_enter Tryz.func188,Tryz.ntmps188
   go_wp2
   refine wp_loop_rounds 3 ?_
   rw [rounds_succ]
   go_wp2
   rw [rounds_succ]
   go_wp2
   rw [rounds_succ]
   go_wp2
   go_ret
   exact ⟨by rw [h1];rfl,rfl⟩
  ·have d1:(y != 0)=true:=by simp [h1]
   go_enter Tryz.func188,Tryz.ntmps188
   go_wp2
   refine wp_loop_rounds 2 ?_
   rw [rounds_succ]
   go_wp2
   rw [rounds_succ]
   go_wp2
   go_ret
   exact ⟨rfl,rfl⟩
 ·rw [if_neg h0]
  have d0:(x != 0)=true:=by simp [h0]
  go_enter Tryz.func188,Tryz.ntmps188
  go_wp2
  refine wp_loop_rounds 1 ?_
  rw [rounds_succ]
  go_wp2
  go_ret
  exact ⟨rfl,rfl⟩
theorem key_lt (p q:Pc) (hp:p.fine) (hq:q.fine):decide (orZ (cmp3 p.wt q.wt) (cmp3 p.plc q.plc)<0)=decide (p.key<q.key):=by
 obtain ⟨h1,h2⟩:=hp
 obtain ⟨h3,h4⟩:=hq
 unfold Pc.key orZ cmp3
 congr 1
 apply propext
 repeat' split
 all_goals omega
theorem less_two (b o i j n c:Nat) (p q:Pc) (w:World) (hbl:b<w.heap.size) (hp:w.cell? ⟨b,o+i,none⟩=some p.vl) (hq:w.cell? ⟨b,o+j,none⟩=some q.vl) (hpf:p.fine) (hqf:q.fine) (hi:i<n) (hj:j<n) :
  Calls Tryz.prog 185 #[.slice (some ⟨b,o,none⟩) n c,.int .i64 i,.int .i64 j] w fun e w'=>e=.returned (.bool (decide (p.key<q.key)))∧Below w.heap.size w w':=by
 rw [←key_lt p q hpf hqf]
 have HPF:Hid (p.fine∧q.fine):=⟨hpf,hqf⟩
 have hi2:(i:Int)<(n:Int):=by omega
 have hj2:(j:Int)<(n:Int):=by omega
 clear hpf hqf
 have mcw:=Tryz.meth_coin_weight
 have mcp:=Tryz.meth_coin_place
 have mpw:=Tryz.meth_coinPack_weight
 have mpp:=Tryz.meth_coinPack_place
 have HB:Hid (Below w.heap.size w w.drew):=⟨rfl,rfl,rfl,Nat.le_refl _,fun _ _=>rfl⟩
 rcases p with ⟨s,k⟩ | ⟨pa,pb,pn⟩
 ·rcases q with ⟨t,m⟩ | ⟨qa,qb,qn⟩
  ·simp only [Pc.vl,Pc.bd] at hp hq
   simp only [Pc.wt,Pc.plc]
   clear HPF
   go_enter Tryz.func185,Tryz.ntmps185
   go_wp2_with fail
   go_region_held3 (fun W=>W.cell? ⟨b,o+i,none⟩=some (.iface 198 (.agg #[.int .i64 s,.int .i64 k]))∧W.cell? ⟨b,o+j,none⟩=some (.iface 198 (.agg #[.int .i64 t,.int .i64 m])))
    (first | exact ⟨keep HB.out hbl hp,keep HB.out hbl hq⟩)
    (first
     | (go_at_call 184;refine (coinWeight_any _ _ _).mono ?_;rintro e w8 ⟨rfl,hb8'⟩;have HB:Hid (Below w.heap.size w w8):=HB.out.trans (hb8'.mono HB.out.size);clear hb8')
     | (go_at_call 187;refine (compare_any _ _ _).mono ?_;rintro e w8 ⟨rfl,hb8'⟩;have HB:Hid (Below w.heap.size w w8):=HB.out.trans (hb8'.mono HB.out.size);clear hb8'))
   all_goals
    go_wp2_with fail
    have HB:Hid (Below w.heap.size w w8.drew):=HB.out.drew
    go_region_held3 (fun W=>W.cell? ⟨b,o+i,none⟩=some (.iface 198 (.agg #[.int .i64 s,.int .i64 k]))∧W.cell? ⟨b,o+j,none⟩=some (.iface 198 (.agg #[.int .i64 t,.int .i64 m])))
     (first | exact ⟨keep HB.out hbl hp,keep HB.out hbl hq⟩ | exact ⟨keep (HB.out.alloc HB.out.size _) hbl hp,keep (HB.out.alloc HB.out.size _) hbl hq⟩)
     (first
      | (go_at_call 183;refine (coinPlace_any _ _ _).mono ?_;rintro e w8 ⟨rfl,hb8'⟩;have HB:Hid (Below w.heap.size w w8):=HB.out.trans (hb8'.mono HB.out.size);clear hb8')
      | (go_at_call 187;refine (compare_any _ _ _).mono ?_;rintro e w8 ⟨rfl,hb8'⟩;have HB:Hid (Below w.heap.size w w8):=HB.out.trans (hb8'.mono HB.out.size);clear hb8')
      | (go_at_call 188;refine (or_any _ (cmp3 k m) (cmp3 s t) _ (by simp) (by simp)).mono ?_;rintro e w9 ⟨rfl,rfl⟩))
    all_goals
     go_wp2
     go_ret
     exact ⟨by first | rfl | simp,HB.out.alloc HB.out.size _⟩
  ·simp only [Pc.vl] at hp hq
   rw [show (Pc.coin s k).bd=.agg #[.int .i64 s,.int .i64 k] from rfl] at hp
   have hqn:qn≤1000:=by have:=HPF.out.2.2;simp only [Pc.plc] at this;omega
   obtain ⟨Yw,hYw⟩:∃ x,x=(Pc.pack qa qb qn).wt:=⟨_,rfl⟩
   obtain ⟨Yp,hYp⟩:∃ x,x=(Pc.pack qa qb qn).plc:=⟨_,rfl⟩
   have HWY:Hid (∀ W,Calls Tryz.prog 193 #[(Pc.pack qa qb qn).bd] W fun e w'=>e=.returned (.int .i64 (Yw:Nat))∧Below W.heap.size W w'):=by rw [hYw];exact fun W=>packWeight_any _ _ _ W
   have HPY:Hid (∀ W,Calls Tryz.prog 192 #[(Pc.pack qa qb qn).bd] W fun e w'=>e=.returned (.int .i64 (Yp:Nat))∧Below W.heap.size W w'):=by rw [hYp];exact fun W=>packPlace_any _ _ _ W (by assumption)
   rw [←hYw,←hYp]
   clear hYw hYp
   generalize (Pc.pack qa qb qn).bd=Yv at *
   simp only [Pc.wt,Pc.plc]
   clear HPF
   go_enter Tryz.func185,Tryz.ntmps185
   go_wp2_with fail
   go_region_held3 (fun W=>W.cell? ⟨b,o+i,none⟩=some (.iface 198 (.agg #[.int .i64 s,.int .i64 k]))∧W.cell? ⟨b,o+j,none⟩=some (.iface 205 Yv))
    (first | exact ⟨keep HB.out hbl hp,keep HB.out hbl hq⟩)
    (first
     | (go_at_call 184;refine (coinWeight_any _ _ _).mono ?_;rintro e w8 ⟨rfl,hb8'⟩;have HB:Hid (Below w.heap.size w w8):=HB.out.trans (hb8'.mono HB.out.size);clear hb8')
     | (go_at_call 193;refine (HWY.out _).mono ?_;rintro e w8 ⟨rfl,hb8'⟩;have HB:Hid (Below w.heap.size w w8):=HB.out.trans (hb8'.mono HB.out.size);clear hb8')
     | (go_at_call 187;refine (compare_any _ _ _).mono ?_;rintro e w8 ⟨rfl,hb8'⟩;have HB:Hid (Below w.heap.size w w8):=HB.out.trans (hb8'.mono HB.out.size);clear hb8'))
   all_goals
    go_wp2_with fail
    have HB:Hid (Below w.heap.size w w8.drew):=HB.out.drew
    go_region_held3 (fun W=>W.cell? ⟨b,o+i,none⟩=some (.iface 198 (.agg #[.int .i64 s,.int .i64 k]))∧W.cell? ⟨b,o+j,none⟩=some (.iface 205 Yv))
     (first | exact ⟨keep HB.out hbl hp,keep HB.out hbl hq⟩ | exact ⟨keep (HB.out.alloc HB.out.size _) hbl hp,keep (HB.out.alloc HB.out.size _) hbl hq⟩)
     (first
      | (go_at_call 183;refine (coinPlace_any _ _ _).mono ?_;rintro e w8 ⟨rfl,hb8'⟩;have HB:Hid (Below w.heap.size w w8):=HB.out.trans (hb8'.mono HB.out.size);clear hb8')
      | (go_at_call 192;refine (HPY.out _).mono ?_;rintro e w8 ⟨rfl,hb8'⟩;have HB:Hid (Below w.heap.size w w8):=HB.out.trans (hb8'.mono HB.out.size);clear hb8')
      | (go_at_call 187;refine (compare_any _ _ _).mono ?_;rintro e w8 ⟨rfl,hb8'⟩;have HB:Hid (Below w.heap.size w w8):=HB.out.trans (hb8'.mono HB.out.size);clear hb8')
      | (go_at_call 188;refine (or_any _ (cmp3 k Yw) (cmp3 s Yp) _ (by simp) (by simp)).mono ?_;rintro e w9 ⟨rfl,rfl⟩))
    all_goals
     go_wp2
     go_ret
     exact ⟨by first | rfl | simp,HB.out.alloc HB.out.size _⟩
 ·rcases q with ⟨t,m⟩ | ⟨qa,qb,qn⟩
  ·simp only [Pc.vl] at hp hq
   rw [show (Pc.coin t m).bd=.agg #[.int .i64 t,.int .i64 m] from rfl] at hq
   have hpn:pn≤1000:=by have:=HPF.out.1.2;simp only [Pc.plc] at this;omega
   obtain ⟨Xw,hXw⟩:∃ x,x=(Pc.pack pa pb pn).wt:=⟨_,rfl⟩
   obtain ⟨Xp,hXp⟩:∃ x,x=(Pc.pack pa pb pn).plc:=⟨_,rfl⟩
   have HWX:Hid (∀ W,Calls Tryz.prog 193 #[(Pc.pack pa pb pn).bd] W fun e w'=>e=.returned (.int .i64 (Xw:Nat))∧Below W.heap.size W w'):=by rw [hXw];exact fun W=>packWeight_any _ _ _ W
   have HPX:Hid (∀ W,Calls Tryz.prog 192 #[(Pc.pack pa pb pn).bd] W fun e w'=>e=.returned (.int .i64 (Xp:Nat))∧Below W.heap.size W w'):=by rw [hXp];exact fun W=>packPlace_any _ _ _ W (by assumption)
   rw [←hXw,←hXp]
   clear hXw hXp
   generalize (Pc.pack pa pb pn).bd=Xv at *
   simp only [Pc.wt,Pc.plc]
   clear HPF
   go_enter Tryz.func185,Tryz.ntmps185
   go_wp2_with fail
   go_region_held3 (fun W=>W.cell? ⟨b,o+i,none⟩=some (.iface 205 Xv)∧W.cell? ⟨b,o+j,none⟩=some (.iface 198 (.agg #[.int .i64 t,.int .i64 m])))
    (first | exact ⟨keep HB.out hbl hp,keep HB.out hbl hq⟩)
    (first
     | (go_at_call 184;refine (coinWeight_any _ _ _).mono ?_;rintro e w8 ⟨rfl,hb8'⟩;have HB:Hid (Below w.heap.size w w8):=HB.out.trans (hb8'.mono HB.out.size);clear hb8')
     | (go_at_call 193;refine (HWX.out _).mono ?_;rintro e w8 ⟨rfl,hb8'⟩;have HB:Hid (Below w.heap.size w w8):=HB.out.trans (hb8'.mono HB.out.size);clear hb8')
     | (go_at_call 187;refine (compare_any _ _ _).mono ?_;rintro e w8 ⟨rfl,hb8'⟩;have HB:Hid (Below w.heap.size w w8):=HB.out.trans (hb8'.mono HB.out.size);clear hb8'))
   all_goals
    go_wp2_with fail
    have HB:Hid (Below w.heap.size w w8.drew):=HB.out.drew
    go_region_held3 (fun W=>W.cell? ⟨b,o+i,none⟩=some (.iface 205 Xv)∧W.cell? ⟨b,o+j,none⟩=some (.iface 198 (.agg #[.int .i64 t,.int .i64 m])))
     (first | exact ⟨keep HB.out hbl hp,keep HB.out hbl hq⟩ | exact ⟨keep (HB.out.alloc HB.out.size _) hbl hp,keep (HB.out.alloc HB.out.size _) hbl hq⟩)
     (first
      | (go_at_call 183;refine (coinPlace_any _ _ _).mono ?_;rintro e w8 ⟨rfl,hb8'⟩;have HB:Hid (Below w.heap.size w w8):=HB.out.trans (hb8'.mono HB.out.size);clear hb8')
      | (go_at_call 192;refine (HPX.out _).mono ?_;rintro e w8 ⟨rfl,hb8'⟩;have HB:Hid (Below w.heap.size w w8):=HB.out.trans (hb8'.mono HB.out.size);clear hb8')
      | (go_at_call 187;refine (compare_any _ _ _).mono ?_;rintro e w8 ⟨rfl,hb8'⟩;have HB:Hid (Below w.heap.size w w8):=HB.out.trans (hb8'.mono HB.out.size);clear hb8')
      | (go_at_call 188;refine (or_any _ (cmp3 Xw m) (cmp3 Xp t) _ (by simp) (by simp)).mono ?_;rintro e w9 ⟨rfl,rfl⟩))
    all_goals
     go_wp2
     go_ret
     exact ⟨by first | rfl | simp,HB.out.alloc HB.out.size _⟩
  ·simp only [Pc.vl] at hp hq
   have hpn:pn≤1000:=by have:=HPF.out.1.2;simp only [Pc.plc] at this;omega
   have hqn:qn≤1000:=by have:=HPF.out.2.2;simp only [Pc.plc] at this;omega
   obtain ⟨Xw,hXw⟩:∃ x,x=(Pc.pack pa pb pn).wt:=⟨_,rfl⟩
   obtain ⟨Xp,hXp⟩:∃ x,x=(Pc.pack pa pb pn).plc:=⟨_,rfl⟩
   have HWX:Hid (∀ W,Calls Tryz.prog 193 #[(Pc.pack pa pb pn).bd] W fun e w'=>e=.returned (.int .i64 (Xw:Nat))∧Below W.heap.size W w'):=by rw [hXw];exact fun W=>packWeight_any _ _ _ W
   have HPX:Hid (∀ W,Calls Tryz.prog 192 #[(Pc.pack pa pb pn).bd] W fun e w'=>e=.returned (.int .i64 (Xp:Nat))∧Below W.heap.size W w'):=by rw [hXp];exact fun W=>packPlace_any _ _ _ W (by assumption)
   rw [←hXw,←hXp]
   clear hXw hXp
   generalize (Pc.pack pa pb pn).bd=Xv at *
   obtain ⟨Yw,hYw⟩:∃ x,x=(Pc.pack qa qb qn).wt:=⟨_,rfl⟩
   obtain ⟨Yp,hYp⟩:∃ x,x=(Pc.pack qa qb qn).plc:=⟨_,rfl⟩
   have HWY:Hid (∀ W,Calls Tryz.prog 193 #[(Pc.pack qa qb qn).bd] W fun e w'=>e=.returned (.int .i64 (Yw:Nat))∧Below W.heap.size W w'):=by rw [hYw];exact fun W=>packWeight_any _ _ _ W
   have HPY:Hid (∀ W,Calls Tryz.prog 192 #[(Pc.pack qa qb qn).bd] W fun e w'=>e=.returned (.int .i64 (Yp:Nat))∧Below W.heap.size W w'):=by rw [hYp];exact fun W=>packPlace_any _ _ _ W (by assumption)
   rw [←hYw,←hYp]
   clear hYw hYp
   generalize (Pc.pack qa qb qn).bd=Yv at *
   clear HPF
   go_enter Tryz.func185,Tryz.ntmps185
   go_wp2_with fail
   go_region_held3 (fun W=>W.cell? ⟨b,o+i,none⟩=some (.iface 205 Xv)∧W.cell? ⟨b,o+j,none⟩=some (.iface 205 Yv))
    (first | exact ⟨keep HB.out hbl hp,keep HB.out hbl hq⟩)
    (first
     | (go_at_call 193;refine (HWX.out _).mono ?_;rintro e w8 ⟨rfl,hb8'⟩;have HB:Hid (Below w.heap.size w w8):=HB.out.trans (hb8'.mono HB.out.size);clear hb8')
     | (go_at_call 193;refine (HWY.out _).mono ?_;rintro e w8 ⟨rfl,hb8'⟩;have HB:Hid (Below w.heap.size w w8):=HB.out.trans (hb8'.mono HB.out.size);clear hb8')
     | (go_at_call 187;refine (compare_any _ _ _).mono ?_;rintro e w8 ⟨rfl,hb8'⟩;have HB:Hid (Below w.heap.size w w8):=HB.out.trans (hb8'.mono HB.out.size);clear hb8'))
   all_goals
    go_wp2_with fail
    have HB:Hid (Below w.heap.size w w8.drew):=HB.out.drew
    go_region_held3 (fun W=>W.cell? ⟨b,o+i,none⟩=some (.iface 205 Xv)∧W.cell? ⟨b,o+j,none⟩=some (.iface 205 Yv))
     (first | exact ⟨keep HB.out hbl hp,keep HB.out hbl hq⟩ | exact ⟨keep (HB.out.alloc HB.out.size _) hbl hp,keep (HB.out.alloc HB.out.size _) hbl hq⟩)
     (first
      | (go_at_call 192;refine (HPX.out _).mono ?_;rintro e w8 ⟨rfl,hb8'⟩;have HB:Hid (Below w.heap.size w w8):=HB.out.trans (hb8'.mono HB.out.size);clear hb8')
      | (go_at_call 192;refine (HPY.out _).mono ?_;rintro e w8 ⟨rfl,hb8'⟩;have HB:Hid (Below w.heap.size w w8):=HB.out.trans (hb8'.mono HB.out.size);clear hb8')
      | (go_at_call 187;refine (compare_any _ _ _).mono ?_;rintro e w8 ⟨rfl,hb8'⟩;have HB:Hid (Below w.heap.size w w8):=HB.out.trans (hb8'.mono HB.out.size);clear hb8')
      | (go_at_call 188;refine (or_any _ (cmp3 Xw Yw) (cmp3 Xp Yp) _ (by simp) (by simp)).mono ?_;rintro e w9 ⟨rfl,rfl⟩))
    all_goals
     go_wp2
     go_ret
     exact ⟨by first | rfl | simp,HB.out.alloc HB.out.size _⟩
def OwV (w:World) (B g cap:Nat) (ps:List Pc):Prop:=w.ownsRow B 166 1 (.slice (some ⟨g,0,none⟩) ps.length cap) ps.length (ps.map Pc.vl)
theorem OwV.lt {w:World} {B g cap:Nat} {ps:List Pc} (h:OwV w B g cap ps):B≤g∧g<w.heap.size:=World.ownsRow.lt h g rfl
theorem OwV.cell {w:World} {B g cap:Nat} {ps:List Pc} (h:OwV w B g cap ps) (i:Nat) (hi:i<ps.length):w.cell? ⟨g,i,none⟩=some (ps.getD i dpc).vl:=by
 have:=World.ownsRow.cellAt h i (by omega)
 rw [this]
 simp [List.getElem?_eq_getElem hi]
theorem OwV.caps {w:World} {B g cap:Nat} {ps:List Pc} (h:OwV w B g cap ps):ps.length≤cap∧cap≤maxLen:=by
 rcases h.2 with ⟨h1,_⟩ | ⟨g',cap',cur,h1,_,_,h2,h3,_⟩
 ·cases h1
 ·simp only [Value.slice.injEq] at h1
  omega
theorem OwV.only {S:Nat→Prop} {w w':World} {B g cap:Nat} {ps:List Pc} (h:OwV w B g cap ps) (ho:Only S w w') (hs:¬S g):OwV w' B g cap ps:=by
 refine ⟨h.1,?_⟩
 have hlt:=h.lt.2
 rcases h.2 with ⟨h',_⟩ | ⟨g',cap',cur,h',hg,hh,r⟩
 ·simp at h'
 ·have e:g'=g:=by simp at h';exact h'.1.symm
  subst e
  exact .inr ⟨g',cap',cur,h',hg,(ho.block g' hlt hs).trans hh,r⟩
theorem OwV.store {w:World} {B g cap:Nat} {ps:List Pc} (h:OwV w B g cap ps) (i:Nat) (p:Pc):OwV (w.setCell ⟨g,i,none⟩ p.vl) B g cap (ps.set i p):=by
 have:=(World.ownsRow.stored h i p.vl).1
 unfold OwV
 simpa [List.map_set] using this
theorem OwV.frozen {w:World} {B g cap:Nat} {ps:List Pc} (h:OwV w B g cap ps) (i:Nat):w.frozen? ⟨g,i,none⟩=false:=World.ownsRow.frozenAt h i
theorem OwV.tag {w:World} {B g cap:Nat} {ps:List Pc} (h:OwV w B g cap ps):∃ cur,w.heap[g]?=some (.cells cur 166 (0,0)):=by
 rcases h.2 with ⟨h1,_⟩ | ⟨g',cap',cur,h1,_,hh,_⟩
 ·cases h1
 ·obtain rfl:g=g':=by simp at h1;exact h1.1
  exact ⟨cur,hh⟩
theorem OwV.drop {w:World} {B g cap:Nat} {ps:List Pc} (h:OwV w B g cap ps) (n:Nat) (hn:n≤ps.length):OwV w B g cap (ps.take n):=by
 rcases h.2 with ⟨h1,_⟩ | ⟨g',cap',cur,h1,h2,h3,h4,h5,h6,h7⟩
 ·cases h1
 ·obtain ⟨rfl,-,rfl⟩:g=g'∧ps.length=ps.length∧cap=cap':=by simpa using h1
  refine ⟨by simp,.inr ⟨g,cap,cur,rfl,h2,h3,?_,h5,h6,?_⟩⟩
  ·rw [List.length_take];omega
  ·rw [List.length_take,Nat.min_eq_left hn,List.map_take,←h7,List.take_take]
   congr 1
   omega
def swp (ps:List Pc) (i j:Nat):List Pc:=(ps.set i (ps.getD j dpc)).set j (ps.getD i dpc)
theorem swp_len (ps:List Pc) (i j:Nat):(swp ps i j).length=ps.length:=by simp [swp]
theorem heapLen_any (a:Option Addr) (n c:Nat) (w:World):Calls Tryz.prog 144 #[.slice a n c] w fun e w'=>e=.returned (.int .i64 n)∧w'=w:=by
 go_enter Tryz.func144,Tryz.ntmps144
 go_wp2
 go_ret
 exact ⟨rfl,rfl⟩
theorem swap_any (B g cap:Nat) (ps:List Pc) (i j:Nat) (w:World) (h:OwV w B g cap ps) (hi:i<ps.length) (hj:j<ps.length) :
  Calls Tryz.prog 186 #[.slice (some ⟨g,0,none⟩) ps.length cap,.int .i64 i,.int .i64 j] w fun e w'=>e=.returned (.tuple #[])∧OwV w' B g cap (swp ps i j)∧Only (fun k=>k=g) w w':=by
 have ci:=h.cell i hi
 have cj:=h.cell j hj
 have fi:=h.frozen i
 have fj:=h.frozen j
 have hi2:(i:Int)<(ps.length:Int):=by omega
 have hj2:(j:Int)<(ps.length:Int):=by omega
 have HD:Hid (OwV ((w.setCell ⟨g,i,none⟩ (ps.getD j dpc).vl).setCell ⟨g,j,none⟩ (ps.getD i dpc).vl) B g cap (swp ps i j)∧Only (fun k=>k=g) w ((w.setCell ⟨g,i,none⟩ (ps.getD j dpc).vl).setCell ⟨g,j,none⟩ (ps.getD i dpc).vl)):=by
  refine ⟨?_,((Only.refl (fun k=>k=g) w).setCell (p:=⟨g,i,none⟩) (.inl rfl) _).setCell (p:=⟨g,j,none⟩) (.inl rfl) _⟩
  have h2:=(h.store i (ps.getD j dpc))
  have h3:=h2.store j (ps.getD i dpc)
  exact h3
 have h2:=h.store i (ps.getD j dpc)
 have ck:=h2.cell j (by simpa using hj)
 have fk:=h2.frozen j
 obtain ⟨tk,xk,hvk⟩:=((ps.set i (ps.getD j dpc)).getD j dpc).form
 rw [hvk] at ck
 clear hvk h2
 obtain ⟨ti,xi,hvi⟩:=(ps.getD i dpc).form
 obtain ⟨tj,xj,hvj⟩:=(ps.getD j dpc).form
 rw [hvi] at ci HD
 rw [hvj] at cj ck fk HD
 clear hvi hvj
 clear h
 generalize ps.length=n at *
 go_enter Tryz.func186,Tryz.ntmps186
 go_wp2_with fail
 go_region
 all_goals
  go_wp2
  go_end0
  exact ⟨rfl,HD.out.1,HD.out.2.drew⟩
def kAt (ps:List Pc) (i:Nat):Nat:=(ps.getD i dpc).key
def HO (ps:List Pc) (lo n x:Nat):Prop:=∀ p c,(c=2*p+1∨c=2*p+2)→c<n→lo≤p→p≠x→kAt ps p≤kAt ps c
def HG (ps:List Pc) (lo n x:Nat):Prop:=∀ p c,(x=2*p+1∨x=2*p+2)→(c=2*x+1∨c=2*x+2)→c<n→lo≤p→kAt ps p≤kAt ps c
theorem swp_get (ps:List Pc) (i j k:Nat) (hi:i<ps.length) (hj:j<ps.length):(swp ps i j).getD k dpc=if k=j then ps.getD i dpc else if k=i then ps.getD j dpc else ps.getD k dpc:=by
 unfold swp
 simp only [List.getD_eq_getElem?_getD,List.getElem?_set,List.length_set]
 by_cases h1:k=j
 ·subst h1
  simp [hj]
 ·have h1':¬j=k:=fun e=>h1 e.symm
  by_cases h2:k=i
  ·subst h2
   simp [h1,h1',hi]
  ·have h2':¬i=k:=fun e=>h2 e.symm
   simp [h1,h1',h2,h2']
theorem kAt_swp (ps:List Pc) (i j k:Nat) (hi:i<ps.length) (hj:j<ps.length):kAt (swp ps i j) k=if k=j then kAt ps i else if k=i then kAt ps j else kAt ps k:=by
 unfold kAt
 rw [swp_get ps i j k hi hj]
 repeat' split
 all_goals rfl
theorem HO_start {ps:List Pc} {lo n:Nat} (h:HO ps (lo+1) n n):HO ps lo n lo:=fun p c hc hn hl hx=>h p c hc hn (by omega) (by omega)
theorem HG_start (ps:List Pc) (lo n:Nat):HG ps lo n lo:=fun p c hx _ _ hl=>by omega
theorem HO_leaf {ps:List Pc} {lo n i:Nat} (h:HO ps lo n i) (hi:n≤2*i+1):HO ps lo n n:=fun p c hc hn hl hx=>h p c hc hn hl (by omega)
theorem HO_done {ps:List Pc} {lo n i j:Nat} (h:HO ps lo n i) (hj:∀ c,(c=2*i+1∨c=2*i+2)→c<n→kAt ps j≤kAt ps c) (hij:kAt ps i≤kAt ps j):HO ps lo n n:=fun p c hc hn hl hx=>by
 by_cases hp:p=i
 ·subst hp
  exact Nat.le_trans hij (hj c hc hn)
 ·exact h p c hc hn hl hp
theorem HO_swap {ps:List Pc} {lo n i j:Nat} (h:HO ps lo n i) (hg:HG ps lo n i) (hlo:lo≤i) (hj:j=2*i+1∨j=2*i+2) (hjn:j<n) (hn:n≤ps.length) (hm:∀ c,(c=2*i+1∨c=2*i+2)→c<n→kAt ps j≤kAt ps c) (hlt:kAt ps j<kAt ps i) :
  HO (swp ps i j) lo n j∧HG (swp ps i j) lo n j:=by
 have hk:=fun k=>kAt_swp ps i j k (by omega) (by omega)
 constructor
 ·intro p c hc hcn hl hp
  rw [hk p,hk c,if_neg hp]
  by_cases h1:p=i
  ·subst h1
   rw [if_pos rfl]
   by_cases h2:c=j
   ·rw [if_pos h2];omega
   ·rw [if_neg h2,if_neg (by omega)]
    exact hm c hc hcn
  ·rw [if_neg h1]
   by_cases h2:c=j
   ·omega
   ·rw [if_neg h2]
    by_cases h3:c=i
    ·rw [if_pos h3]
     subst h3
     exact hg p j hc hj hjn hl
    ·rw [if_neg h3]
     exact h p c hc hcn hl h1
 ·intro p c hx hc hcn hl
  have hpi:p=i:=by omega
  subst hpi
  rw [hk p,hk c,if_neg (by omega),if_pos rfl,if_neg (by omega),if_neg (by omega)]
  exact h j c hc hcn (by omega) (by omega)
theorem swp_perm (ps:List Pc) (i j:Nat) (hi:i<ps.length) (hj:j<ps.length):(swp ps i j).Perm ps:=by
 unfold swp
 rw [show ps.getD i dpc=ps[i] by simp [List.getD_eq_getElem?_getD,hi],show ps.getD j dpc=ps[j] by simp [List.getD_eq_getElem?_getD,hj]]
 exact List.set_set_perm hi hj
structure HpS (W:World) (B H g cap:Nat) (ps:List Pc):Prop where
 blk:W.heap[H]?=some (.cells #[.slice (some ⟨g,0,none⟩) ps.length cap] 199 (0,0))
 row:OwV W B g cap ps
 fin:∀ p ∈ ps,p.fine
theorem HpS.c0 {W:World} {B H g cap:Nat} {ps:List Pc} (h:HpS W B H g cap ps):W.cell? ⟨H,0,none⟩=some (.slice (some ⟨g,0,none⟩) ps.length cap):=by
 rw [cell_of_row W H 0 _ _ (0,0) h.blk];rfl
theorem HpS.lt {W:World} {B H g cap:Nat} {ps:List Pc} (h:HpS W B H g cap ps):H<W.heap.size:=(Array.getElem?_eq_some_iff.1 h.blk).1
theorem HpS.ne {W:World} {B H g cap:Nat} {ps:List Pc} (h:HpS W B H g cap ps):H≠g:=fun e=>by
 obtain ⟨cur,hc⟩:=h.row.tag
 rw [←e,h.blk] at hc
 simp at hc
theorem HpS.below {W W':World} {B H g cap:Nat} {ps:List Pc} (h:HpS W B H g cap ps) (hb:Below W.heap.size W W'):HpS W' B H g cap ps:=
 ⟨(hb.block H h.lt).trans h.blk,h.row.only (Only.ofBelow (S:=fun _=>False) hb nl) (by simp),h.fin⟩
theorem HpS.fineAt {W:World} {B H g cap:Nat} {ps:List Pc} (h:HpS W B H g cap ps) (i:Nat):(ps.getD i dpc).fine:=by
 rw [List.getD_eq_getElem?_getD]
 cases he:ps[i]? with
 | none=>exact ⟨by simp [dpc,Pc.wt],by simp [dpc,Pc.plc]⟩
 | some p=>exact h.fin p (List.mem_of_getElem? he)
theorem HpS.less {W:World} {B H g cap:Nat} {ps:List Pc} (h:HpS W B H g cap ps) (i j:Nat) (hi:i<ps.length) (hj:j<ps.length) :
  Calls Tryz.prog 185 #[.slice (some ⟨g,0,none⟩) ps.length cap,.int .i64 i,.int .i64 j] W fun e w'=>e=.returned (.bool (decide (kAt ps i<kAt ps j)))∧Below W.heap.size W w':=
 less_two g 0 i j ps.length cap (ps.getD i dpc) (ps.getD j dpc) W h.row.lt.2 (by rw [Nat.zero_add];exact h.row.cell i hi) (by rw [Nat.zero_add];exact h.row.cell j hj) (h.fineAt i) (h.fineAt j) hi hj
theorem Tryz.methH_Less (H : Nat) (w : World) : Sem.run Tryz.prog (method 383 201 (.pointer (some ⟨H, 0, none⟩)) "Less") w = Sem.run Tryz.prog (do let v ← loadVar 199 ⟨H, 0, none⟩; pure (185, v)) w := by kernel_rfl
theorem HpS.mLess {w : World} {B H g cap : Nat} {ps : List Pc} (h : HpS w B H g cap ps) : Sem.run Tryz.prog (method 383 201 (.pointer (some ⟨H, 0, none⟩)) "Less") w = .ok (185, .slice (some ⟨g, 0, none⟩) ps.length cap) w := by
 rw [Tryz.methH_Less]
 simp [loadVar,isAgg,h.c0]
theorem Tryz.methH_Swap (H : Nat) (w : World) : Sem.run Tryz.prog (method 383 201 (.pointer (some ⟨H, 0, none⟩)) "Swap") w = Sem.run Tryz.prog (do let v ← loadVar 199 ⟨H, 0, none⟩; pure (186, v)) w := by kernel_rfl
theorem HpS.mSwap {w : World} {B H g cap : Nat} {ps : List Pc} (h : HpS w B H g cap ps) : Sem.run Tryz.prog (method 383 201 (.pointer (some ⟨H, 0, none⟩)) "Swap") w = .ok (186, .slice (some ⟨g, 0, none⟩) ps.length cap) w := by
 rw [Tryz.methH_Swap]
 simp [loadVar,isAgg,h.c0]
theorem Tryz.methH_Len (H : Nat) (w : World) : Sem.run Tryz.prog (method 383 201 (.pointer (some ⟨H, 0, none⟩)) "Len") w = Sem.run Tryz.prog (do let v ← loadVar 199 ⟨H, 0, none⟩; pure (144, v)) w := by kernel_rfl
theorem HpS.mLen {w : World} {B H g cap : Nat} {ps : List Pc} (h : HpS w B H g cap ps) : Sem.run Tryz.prog (method 383 201 (.pointer (some ⟨H, 0, none⟩)) "Len") w = .ok (144, .slice (some ⟨g, 0, none⟩) ps.length cap) w := by
 rw [Tryz.methH_Len]
 simp [loadVar,isAgg,h.c0]
theorem HpS.swap {W:World} {B H g cap:Nat} {ps:List Pc} (h:HpS W B H g cap ps) (i j:Nat) (hi:i<ps.length) (hj:j<ps.length) :
  Calls Tryz.prog 186 #[.slice (some ⟨g,0,none⟩) ps.length cap,.int .i64 i,.int .i64 j] W fun e w'=>e=.returned (.tuple #[])∧HpS w' B H g cap (swp ps i j)∧Only (fun k=>k=g) W w':=by
 refine (swap_any B g cap ps i j W h.row hi hj).mono ?_
 rintro e w' ⟨rfl,h1,h2⟩
 refine ⟨rfl,⟨?_,h1,fun p hp=>h.fin p ((swp_perm ps i j hi hj).mem_iff.1 hp)⟩,h2⟩
 rw [swp_len]
 exact (h2.block H h.lt h.ne).trans h.blk
theorem down_any (B H g cap lo n:Nat) (ps:List Pc) (w:World) (h:HpS w B H g cap ps) (hn:n≤ps.length) (hm:ps.length≤1000) (hlo:lo≤1000) (ho:HO ps (lo+1) n n) :
  Calls Tryz.prog 159 #[.iface 201 (.pointer (some ⟨H,0,none⟩)),.int .i64 lo,.int .i64 n] w fun e w'=>(∃ b:Bool,e=.returned (.bool b)) ∧
   ∃ qs:List Pc,qs.Perm ps∧HpS w' B H g cap qs∧HO qs lo n n∧(∀ k,n≤k→qs.getD k dpc=ps.getD k dpc)∧Only (fun k=>k=g) w w':=by
 have H0:Hid (HpS w B H g cap ps∧HO ps lo n lo):=⟨h,HO_start ho⟩
 have HN:Hid (n≤ps.length∧ps.length≤1000):=⟨hn,hm⟩
 have hn1:n≤1000:=by omega
 clear h ho hn hm
 go_enter Tryz.func159,Tryz.ntmps159
 go_wp2
 go_loopw [7] (fun i W=>∃ (k:Nat) (qs:List Pc),i=.int .i64 k∧lo≤k∧k≤1000∧qs.Perm ps∧HpS W B H g cap qs∧HO qs lo n k∧HG qs lo n k∧(∀ k,n≤k→qs.getD k dpc=ps.getD k dpc)∧Only (fun k=>k=g) w W) (fun i _=>1000-(intOf i).toNat)
 case atStart=>exact ⟨lo,ps,rfl,Nat.le_refl _,hlo,List.Perm.refl _,H0.out.1,H0.out.2,HG_start ps lo n,fun _ _=>rfl,Only.refl _ _⟩
 case round=>
  obtain ⟨k,qs,rfl,hk,hk2,hperm,hps,hho,hhg,hge,hon⟩:=hrel
  have HR:Hid (qs.Perm ps∧HpS wr B H g cap qs∧HO qs lo n k∧HG qs lo n k∧(∀ k,n≤k→qs.getD k dpc=ps.getD k dpc)∧Only (fun k=>k=g) w wr):=⟨hperm,hps,hho,hhg,hge,hon⟩
  have hql:qs.length=ps.length:=hperm.length_eq
  have HQL:Hid (n≤qs.length∧qs.length≤1000):=by unfold Hid;rw [hql];exact HN.out
  have hml:=hps.mLess
  have hms:=hps.mSwap
  clear hperm hps hho hhg hge hon hql
  obtain ⟨j1,hj1⟩:∃ j,j=2*k+1:=⟨_,rfl⟩
  have hj1i:2*(k:Int)+1=(j1:Int):=by omega
  have HJ1:Hid (j1=2*k+1∧True):=⟨hj1,trivial⟩
  have hj1b:j1≤2001:=by omega
  clear hj1
  by_cases hA:n≤j1
  ·have hA2:(n:Int)≤(j1:Int):=by omega
   have hL:HO qs lo n n:=HO_leaf HR.out.2.2.1 (by have:=HJ1.out.1;omega)
   go_wp2
   go_ret
   exact ⟨⟨_,rfl⟩,qs,HR.out.1,HR.out.2.1,hL,HR.out.2.2.2.2.1,HR.out.2.2.2.2.2⟩
  ·have hA2:¬(n:Int)≤(j1:Int):=by omega
   have hA3:¬(j1:Int)<0:=by omega
   have hkn:k<qs.length:=by have:=HJ1.out.1;have:=HQL.out.1;omega
   have hj1q:j1<qs.length:=by have:=HQL.out.1;omega
   obtain ⟨j2,hj2⟩:∃ j,j=j1+1:=⟨_,rfl⟩
   have hj2i:(j1:Int)+1=(j2:Int):=by omega
   have HJ2:Hid (j2=j1+1∧True):=⟨hj2,trivial⟩
   have hj2b:j2≤2002:=by omega
   clear hj2
   by_cases hB:n≤j2
   ·have hB2:¬(j2:Int)<(n:Int):=by omega
    have hd:decide ((j2:Int)<(n:Int))=false:=decide_eq_false hB2
    have HL2:=(HR.out.2.1).less j1 k (by omega) (by omega)
    go_wp2_with fail
    refine HL2.mono ?_
    clear HL2
    rintro e w2 ⟨rfl,hb2⟩
    have hp2:=(HR.out.2.1).below hb2
    have HP2:Hid (HpS w2 B H g cap qs∧Only (fun k=>k=g) w w2):=⟨hp2,HR.out.2.2.2.2.2.trans (Only.ofBelow hb2 nl)⟩
    have hms2:=hp2.mSwap
    clear hb2 hp2
    by_cases hc:kAt qs j1<kAt qs k
    ·rw [decide_eq_true hc]
     have HSW:=HP2.out.1.swap k j1 (by omega) (by omega)
     have HSO:=HO_swap HR.out.2.2.1 HR.out.2.2.2.1 hk (j:=j1) (by have:=HJ1.out.1;have:=HJ2.out.1;omega) (by omega) HQL.out.1 (by intro c hc hcn;have h1:=HJ1.out.1;have h2:=HJ2.out.1;rw [show c=j1 by omega];exact Nat.le_refl _) hc
     have HFX:Hid ((swp qs k j1).Perm ps∧HO (swp qs k j1) lo n j1∧HG (swp qs k j1) lo n j1∧(∀ i,n≤i→(swp qs k j1).getD i dpc=ps.getD i dpc)):=by
      refine ⟨(swp_perm qs k j1 (by omega) (by omega)).trans HR.out.1,HSO.1,HSO.2,fun i hi=>?_⟩
      rw [swp_get qs k j1 i (by omega) (by omega),if_neg (by omega),if_neg (by have:=HJ1.out.1;omega)]
      exact HR.out.2.2.2.2.1 i hi
     clear hc HSO
     go_wp2_with fail
     refine HSW.mono ?_
     clear HSW
     rintro e w3 ⟨rfl,hp3,ho3⟩
     have HP3:Hid (HpS w3 B H g cap (swp qs k j1)∧Only (fun k=>k=g) w w3):=⟨hp3,HP2.out.2.trans ho3⟩
     clear hp3 ho3
     go_wp2
     go_roundw
     case rel=>exact ⟨j1,swp qs k j1,rfl,by have:=HJ1.out.1;have:=HJ2.out.1;omega,by omega,HFX.out.1,HP3.out.1,HFX.out.2.1,HFX.out.2.2.1,HFX.out.2.2.2,HP3.out.2⟩
     case measure=>simp [intOf];have:=HJ1.out.1;have:=HJ2.out.1;omega
    ·rw [decide_eq_false hc]
     have hD:HO qs lo n n:=HO_done HR.out.2.2.1 (j:=j1) (by intro c hc hcn;have h1:=HJ1.out.1;have h2:=HJ2.out.1;rw [show c=j1 by omega];exact Nat.le_refl _) (by omega)
     clear hc
     go_wp2
     go_ret
     exact ⟨⟨_,rfl⟩,qs,HR.out.1,HP2.out.1,hD,HR.out.2.2.2.2.1,HP2.out.2⟩
   ·have hB2:(j2:Int)<(n:Int):=by omega
    have hd:decide ((j2:Int)<(n:Int))=true:=decide_eq_true hB2
    have hj2q:j2<qs.length:=by have:=HQL.out.1;omega
    have HL1:=HR.out.2.1.less j2 j1 (by omega) (by omega)
    by_cases hc1:kAt qs j2<kAt qs j1
    ·rw [decide_eq_true hc1] at HL1
     have HC1:Hid (kAt qs j2<kAt qs j1∧True):=⟨hc1,trivial⟩
     clear hc1
     go_wp2_with fail
     refine HL1.mono ?_
     clear HL1
     rintro e w1 ⟨rfl,hb1⟩
     have hp1:=HR.out.2.1.below hb1
     have HP1:Hid (HpS w1 B H g cap qs∧Only (fun k=>k=g) w w1):=⟨hp1,HR.out.2.2.2.2.2.trans (Only.ofBelow hb1 nl)⟩
     have hml1:=hp1.mLess
     clear hb1 hp1
     have HL2:=(HP1.out.1).less j2 k (by omega) (by omega)
     go_wp2_with fail
     refine HL2.mono ?_
     clear HL2
     rintro e w2 ⟨rfl,hb2⟩
     have hp2:=(HP1.out.1).below hb2
     have HP2:Hid (HpS w2 B H g cap qs∧Only (fun k=>k=g) w w2):=⟨hp2,HP1.out.2.trans (Only.ofBelow hb2 nl)⟩
     have hms2:=hp2.mSwap
     clear hb2 hp2
     by_cases hc:kAt qs j2<kAt qs k
     ·rw [decide_eq_true hc]
      have HSW:=HP2.out.1.swap k j2 (by omega) (by omega)
      have HSO:=HO_swap HR.out.2.2.1 HR.out.2.2.2.1 hk (j:=j2) (by have:=HJ1.out.1;have:=HJ2.out.1;omega) (by omega) HQL.out.1 (by intro c hc hcn;have h1:=HJ1.out.1;have h2:=HJ2.out.1;have h3:=HC1.out.1;rcases (show c=j1∨c=j2 by omega) with rfl | rfl <;> omega) hc
      have HFX:Hid ((swp qs k j2).Perm ps∧HO (swp qs k j2) lo n j2∧HG (swp qs k j2) lo n j2∧(∀ i,n≤i→(swp qs k j2).getD i dpc=ps.getD i dpc)):=by
       refine ⟨(swp_perm qs k j2 (by omega) (by omega)).trans HR.out.1,HSO.1,HSO.2,fun i hi=>?_⟩
       rw [swp_get qs k j2 i (by omega) (by omega),if_neg (by omega),if_neg (by have:=HJ1.out.1;omega)]
       exact HR.out.2.2.2.2.1 i hi
      clear hc HSO
      go_wp2_with fail
      refine HSW.mono ?_
      clear HSW
      rintro e w3 ⟨rfl,hp3,ho3⟩
      have HP3:Hid (HpS w3 B H g cap (swp qs k j2)∧Only (fun k=>k=g) w w3):=⟨hp3,HP2.out.2.trans ho3⟩
      clear hp3 ho3
      go_wp2
      go_roundw
      case rel=>exact ⟨j2,swp qs k j2,rfl,by have:=HJ1.out.1;have:=HJ2.out.1;omega,by omega,HFX.out.1,HP3.out.1,HFX.out.2.1,HFX.out.2.2.1,HFX.out.2.2.2,HP3.out.2⟩
      case measure=>simp [intOf];have:=HJ1.out.1;have:=HJ2.out.1;omega
     ·rw [decide_eq_false hc]
      have hD:HO qs lo n n:=HO_done HR.out.2.2.1 (j:=j2) (by intro c hc hcn;have h1:=HJ1.out.1;have h2:=HJ2.out.1;have h3:=HC1.out.1;rcases (show c=j1∨c=j2 by omega) with rfl | rfl <;> omega) (by omega)
      clear hc
      go_wp2
      go_ret
      exact ⟨⟨_,rfl⟩,qs,HR.out.1,HP2.out.1,hD,HR.out.2.2.2.2.1,HP2.out.2⟩
    ·rw [decide_eq_false hc1] at HL1
     have HC1:Hid (¬kAt qs j2<kAt qs j1∧True):=⟨hc1,trivial⟩
     clear hc1
     go_wp2_with fail
     refine HL1.mono ?_
     clear HL1
     rintro e w1 ⟨rfl,hb1⟩
     have hp1:=HR.out.2.1.below hb1
     have HP1:Hid (HpS w1 B H g cap qs∧Only (fun k=>k=g) w w1):=⟨hp1,HR.out.2.2.2.2.2.trans (Only.ofBelow hb1 nl)⟩
     have hml1:=hp1.mLess
     clear hb1 hp1
     have HL2:=(HP1.out.1).less j1 k (by omega) (by omega)
     go_wp2_with fail
     refine HL2.mono ?_
     clear HL2
     rintro e w2 ⟨rfl,hb2⟩
     have hp2:=(HP1.out.1).below hb2
     have HP2:Hid (HpS w2 B H g cap qs∧Only (fun k=>k=g) w w2):=⟨hp2,HP1.out.2.trans (Only.ofBelow hb2 nl)⟩
     have hms2:=hp2.mSwap
     clear hb2 hp2
     by_cases hc:kAt qs j1<kAt qs k
     ·rw [decide_eq_true hc]
      have HSW:=HP2.out.1.swap k j1 (by omega) (by omega)
      have HSO:=HO_swap HR.out.2.2.1 HR.out.2.2.2.1 hk (j:=j1) (by have:=HJ1.out.1;have:=HJ2.out.1;omega) (by omega) HQL.out.1 (by intro c hc hcn;have h1:=HJ1.out.1;have h2:=HJ2.out.1;have h3:=HC1.out.1;rcases (show c=j1∨c=j2 by omega) with rfl | rfl <;> omega) hc
      have HFX:Hid ((swp qs k j1).Perm ps∧HO (swp qs k j1) lo n j1∧HG (swp qs k j1) lo n j1∧(∀ i,n≤i→(swp qs k j1).getD i dpc=ps.getD i dpc)):=by
       refine ⟨(swp_perm qs k j1 (by omega) (by omega)).trans HR.out.1,HSO.1,HSO.2,fun i hi=>?_⟩
       rw [swp_get qs k j1 i (by omega) (by omega),if_neg (by omega),if_neg (by have:=HJ1.out.1;omega)]
       exact HR.out.2.2.2.2.1 i hi
      clear hc HSO
      go_wp2_with fail
      refine HSW.mono ?_
      clear HSW
      rintro e w3 ⟨rfl,hp3,ho3⟩
      have HP3:Hid (HpS w3 B H g cap (swp qs k j1)∧Only (fun k=>k=g) w w3):=⟨hp3,HP2.out.2.trans ho3⟩
      clear hp3 ho3
      go_wp2
      go_roundw
      case rel=>exact ⟨j1,swp qs k j1,rfl,by have:=HJ1.out.1;have:=HJ2.out.1;omega,by omega,HFX.out.1,HP3.out.1,HFX.out.2.1,HFX.out.2.2.1,HFX.out.2.2.2,HP3.out.2⟩
      case measure=>simp [intOf];have:=HJ1.out.1;have:=HJ2.out.1;omega
     ·rw [decide_eq_false hc]
      have hD:HO qs lo n n:=HO_done HR.out.2.2.1 (j:=j1) (by intro c hc hcn;have h1:=HJ1.out.1;have h2:=HJ2.out.1;have h3:=HC1.out.1;rcases (show c=j1∨c=j2 by omega) with rfl | rfl <;> omega) (by omega)
      clear hc
      go_wp2
      go_ret
      exact ⟨⟨_,rfl⟩,qs,HR.out.1,HP2.out.1,hD,HR.out.2.2.2.2.1,HP2.out.2⟩
end Go.Proofs.YtfeokafkhnbdiaaGreatDoor
