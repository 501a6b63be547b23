/- Lemmas on the way. -/
import Derived.Test.YtfeokafkhnbdiaaGreatDoorPcB
import Derived.BigRegion
set_option maxRecDepth 20000
set_option maxHeartbeats 16000000
namespace Go.Proofs.YtfeokafkhnbdiaaGreatDoor
open Go.RowKit
set_option linter.unusedVariables false
set_option linter.unusedSimpArgs false
theorem less_two (b o i j n c:Nat) (p q:Pc) (w:World) (hbl:b<w.heap.size) (hp:w.cell? ⟨b,o+i,none⟩=some p.vl) (hq:w.cell? ⟨b,o+j,none⟩=some q.vl) (hpf:p.fine) (hqf:q.fine) (hi:i<n) (hj:j<n) :
  Calls Tryz.prog 185 #[.slice (some ⟨b,o,none⟩) n c,.int .i64 i,.int .i64 j] w fun e w'=>e=.returned (.bool (decide (p.key<q.key)))∧Below w.heap.size w w':=by
 rw [←key_lt p q hpf hqf]
 have HPF:Hid (p.fine∧q.fine):=⟨hpf,hqf⟩
 have hi2:(i:Int)<(n:Int):=by omega
 have hj2:(j:Int)<(n:Int):=by omega
 clear hpf hqf
 have mcw:=Tryz.meth_coin_weight
 have mcp:=Tryz.meth_coin_place
 have mpw:=Tryz.meth_coinPack_weight
 have mpp:=Tryz.meth_coinPack_place
 have HB:Hid (Below w.heap.size w w.drew):=⟨rfl,rfl,rfl,Nat.le_refl _,fun _ _=>rfl⟩
 rcases p with ⟨s,k⟩ | ⟨pa,pb,pn⟩
 ·rcases q with ⟨t,m⟩ | ⟨qa,qb,qn⟩
  ·simp only [Pc.vl,Pc.bd] at hp hq
   simp only [Pc.wt,Pc.plc]
   clear HPF
   go_enter Tryz.func185,Tryz.ntmps185
   go_wp2_with fail
   go_region_held3 (fun W=>W.cell? ⟨b,o+i,none⟩=some (.iface 198 (.agg #[.int .i64 s,.int .i64 k]))∧W.cell? ⟨b,o+j,none⟩=some (.iface 198 (.agg #[.int .i64 t,.int .i64 m])))
    (first | exact ⟨keep HB.out hbl hp,keep HB.out hbl hq⟩)
    (first
     | (go_at_call 184;refine (coinWeight_any _ _ _).mono ?_;rintro e w8 ⟨rfl,hb8'⟩;have HB:Hid (Below w.heap.size w w8):=HB.out.trans (hb8'.mono HB.out.size);clear hb8')
     | (go_at_call 187;refine (compare_any _ _ _).mono ?_;rintro e w8 ⟨rfl,hb8'⟩;have HB:Hid (Below w.heap.size w w8):=HB.out.trans (hb8'.mono HB.out.size);clear hb8'))
   all_goals
    go_wp2_with fail
    have HB:Hid (Below w.heap.size w w8.drew):=HB.out.drew
    go_region_held3 (fun W=>W.cell? ⟨b,o+i,none⟩=some (.iface 198 (.agg #[.int .i64 s,.int .i64 k]))∧W.cell? ⟨b,o+j,none⟩=some (.iface 198 (.agg #[.int .i64 t,.int .i64 m])))
     (first | exact ⟨keep HB.out hbl hp,keep HB.out hbl hq⟩ | exact ⟨keep (HB.out.alloc HB.out.size _) hbl hp,keep (HB.out.alloc HB.out.size _) hbl hq⟩)
     (first
      | (go_at_call 183;refine (coinPlace_any _ _ _).mono ?_;rintro e w8 ⟨rfl,hb8'⟩;have HB:Hid (Below w.heap.size w w8):=HB.out.trans (hb8'.mono HB.out.size);clear hb8')
      | (go_at_call 187;refine (compare_any _ _ _).mono ?_;rintro e w8 ⟨rfl,hb8'⟩;have HB:Hid (Below w.heap.size w w8):=HB.out.trans (hb8'.mono HB.out.size);clear hb8')
      | (go_at_call 188;refine (or_any _ (cmp3 k m) (cmp3 s t) _ (by simp) (by simp)).mono ?_;rintro e w9 ⟨rfl,rfl⟩))
    all_goals
     go_wp2
     go_ret
     exact ⟨by first | rfl | simp,HB.out.alloc HB.out.size _⟩
  ·simp only [Pc.vl] at hp hq
   rw [show (Pc.coin s k).bd=.agg #[.int .i64 s,.int .i64 k] from rfl] at hp
   have hqn:qn≤1000:=by have:=HPF.out.2.2;simp only [Pc.plc] at this;omega
   obtain ⟨Yw,hYw⟩:∃ x,x=(Pc.pack qa qb qn).wt:=⟨_,rfl⟩
   obtain ⟨Yp,hYp⟩:∃ x,x=(Pc.pack qa qb qn).plc:=⟨_,rfl⟩
   have HWY:Hid (∀ W,Calls Tryz.prog 193 #[(Pc.pack qa qb qn).bd] W fun e w'=>e=.returned (.int .i64 (Yw:Nat))∧Below W.heap.size W w'):=by rw [hYw];exact fun W=>packWeight_any _ _ _ W
   have HPY:Hid (∀ W,Calls Tryz.prog 192 #[(Pc.pack qa qb qn).bd] W fun e w'=>e=.returned (.int .i64 (Yp:Nat))∧Below W.heap.size W w'):=by rw [hYp];exact fun W=>packPlace_any _ _ _ W (by assumption)
   rw [←hYw,←hYp]
   clear hYw hYp
   generalize (Pc.pack qa qb qn).bd=Yv at *
   simp only [Pc.wt,Pc.plc]
   clear HPF
   go_enter Tryz.func185,Tryz.ntmps185
   go_wp2_with fail
   go_region_held3 (fun W=>W.cell? ⟨b,o+i,none⟩=some (.iface 198 (.agg #[.int .i64 s,.int .i64 k]))∧W.cell? ⟨b,o+j,none⟩=some (.iface 205 Yv))
    (first | exact ⟨keep HB.out hbl hp,keep HB.out hbl hq⟩)
    (first
     | (go_at_call 184;refine (coinWeight_any _ _ _).mono ?_;rintro e w8 ⟨rfl,hb8'⟩;have HB:Hid (Below w.heap.size w w8):=HB.out.trans (hb8'.mono HB.out.size);clear hb8')
     | (go_at_call 193;refine (HWY.out _).mono ?_;rintro e w8 ⟨rfl,hb8'⟩;have HB:Hid (Below w.heap.size w w8):=HB.out.trans (hb8'.mono HB.out.size);clear hb8')
     | (go_at_call 187;refine (compare_any _ _ _).mono ?_;rintro e w8 ⟨rfl,hb8'⟩;have HB:Hid (Below w.heap.size w w8):=HB.out.trans (hb8'.mono HB.out.size);clear hb8'))
   all_goals
    go_wp2_with fail
    have HB:Hid (Below w.heap.size w w8.drew):=HB.out.drew
    go_region_held3 (fun W=>W.cell? ⟨b,o+i,none⟩=some (.iface 198 (.agg #[.int .i64 s,.int .i64 k]))∧W.cell? ⟨b,o+j,none⟩=some (.iface 205 Yv))
     (first | exact ⟨keep HB.out hbl hp,keep HB.out hbl hq⟩ | exact ⟨keep (HB.out.alloc HB.out.size _) hbl hp,keep (HB.out.alloc HB.out.size _) hbl hq⟩)
     (first
      | (go_at_call 183;refine (coinPlace_any _ _ _).mono ?_;rintro e w8 ⟨rfl,hb8'⟩;have HB:Hid (Below w.heap.size w w8):=HB.out.trans (hb8'.mono HB.out.size);clear hb8')
      | (go_at_call 192;refine (HPY.out _).mono ?_;rintro e w8 ⟨rfl,hb8'⟩;have HB:Hid (Below w.heap.size w w8):=HB.out.trans (hb8'.mono HB.out.size);clear hb8')
      | (go_at_call 187;refine (compare_any _ _ _).mono ?_;rintro e w8 ⟨rfl,hb8'⟩;have HB:Hid (Below w.heap.size w w8):=HB.out.trans (hb8'.mono HB.out.size);clear hb8')
      | (go_at_call 188;refine (or_any _ (cmp3 k Yw) (cmp3 s Yp) _ (by simp) (by simp)).mono ?_;rintro e w9 ⟨rfl,rfl⟩))
    all_goals
     go_wp2
     go_ret
     exact ⟨by first | rfl | simp,HB.out.alloc HB.out.size _⟩
 ·rcases q with ⟨t,m⟩ | ⟨qa,qb,qn⟩
  ·simp only [Pc.vl] at hp hq
   rw [show (Pc.coin t m).bd=.agg #[.int .i64 t,.int .i64 m] from rfl] at hq
   have hpn:pn≤1000:=by have:=HPF.out.1.2;simp only [Pc.plc] at this;omega
   obtain ⟨Xw,hXw⟩:∃ x,x=(Pc.pack pa pb pn).wt:=⟨_,rfl⟩
   obtain ⟨Xp,hXp⟩:∃ x,x=(Pc.pack pa pb pn).plc:=⟨_,rfl⟩
   have HWX:Hid (∀ W,Calls Tryz.prog 193 #[(Pc.pack pa pb pn).bd] W fun e w'=>e=.returned (.int .i64 (Xw:Nat))∧Below W.heap.size W w'):=by rw [hXw];exact fun W=>packWeight_any _ _ _ W
   have HPX:Hid (∀ W,Calls Tryz.prog 192 #[(Pc.pack pa pb pn).bd] W fun e w'=>e=.returned (.int .i64 (Xp:Nat))∧Below W.heap.size W w'):=by rw [hXp];exact fun W=>packPlace_any _ _ _ W (by assumption)
   rw [←hXw,←hXp]
   clear hXw hXp
   generalize (Pc.pack pa pb pn).bd=Xv at *
   simp only [Pc.wt,Pc.plc]
   clear HPF
   go_enter Tryz.func185,Tryz.ntmps185
   go_wp2_with fail
   go_region_held3 (fun W=>W.cell? ⟨b,o+i,none⟩=some (.iface 205 Xv)∧W.cell? ⟨b,o+j,none⟩=some (.iface 198 (.agg #[.int .i64 t,.int .i64 m])))
    (first | exact ⟨keep HB.out hbl hp,keep HB.out hbl hq⟩)
    (first
     | (go_at_call 184;refine (coinWeight_any _ _ _).mono ?_;rintro e w8 ⟨rfl,hb8'⟩;have HB:Hid (Below w.heap.size w w8):=HB.out.trans (hb8'.mono HB.out.size);clear hb8')
     | (go_at_call 193;refine (HWX.out _).mono ?_;rintro e w8 ⟨rfl,hb8'⟩;have HB:Hid (Below w.heap.size w w8):=HB.out.trans (hb8'.mono HB.out.size);clear hb8')
     | (go_at_call 187;refine (compare_any _ _ _).mono ?_;rintro e w8 ⟨rfl,hb8'⟩;have HB:Hid (Below w.heap.size w w8):=HB.out.trans (hb8'.mono HB.out.size);clear hb8'))
   all_goals
    go_wp2_with fail
    have HB:Hid (Below w.heap.size w w8.drew):=HB.out.drew
    go_region_held3 (fun W=>W.cell? ⟨b,o+i,none⟩=some (.iface 205 Xv)∧W.cell? ⟨b,o+j,none⟩=some (.iface 198 (.agg #[.int .i64 t,.int .i64 m])))
     (first | exact ⟨keep HB.out hbl hp,keep HB.out hbl hq⟩ | exact ⟨keep (HB.out.alloc HB.out.size _) hbl hp,keep (HB.out.alloc HB.out.size _) hbl hq⟩)
     (first
      | (go_at_call 183;refine (coinPlace_any _ _ _).mono ?_;rintro e w8 ⟨rfl,hb8'⟩;have HB:Hid (Below w.heap.size w w8):=HB.out.trans (hb8'.mono HB.out.size);clear hb8')
      | (go_at_call 192;refine (HPX.out _).mono ?_;rintro e w8 ⟨rfl,hb8'⟩;have HB:Hid (Below w.heap.size w w8):=HB.out.trans (hb8'.mono HB.out.size);clear hb8')
      | (go_at_call 187;refine (compare_any _ _ _).mono ?_;rintro e w8 ⟨rfl,hb8'⟩;have HB:Hid (Below w.heap.size w w8):=HB.out.trans (hb8'.mono HB.out.size);clear hb8')
      | (go_at_call 188;refine (or_any _ (cmp3 Xw m) (cmp3 Xp t) _ (by simp) (by simp)).mono ?_;rintro e w9 ⟨rfl,rfl⟩))
    all_goals
     go_wp2
     go_ret
     exact ⟨by first | rfl | simp,HB.out.alloc HB.out.size _⟩
  ·simp only [Pc.vl] at hp hq
   have hpn:pn≤1000:=by have:=HPF.out.1.2;simp only [Pc.plc] at this;omega
   have hqn:qn≤1000:=by have:=HPF.out.2.2;simp only [Pc.plc] at this;omega
   obtain ⟨Xw,hXw⟩:∃ x,x=(Pc.pack pa pb pn).wt:=⟨_,rfl⟩
   obtain ⟨Xp,hXp⟩:∃ x,x=(Pc.pack pa pb pn).plc:=⟨_,rfl⟩
   have HWX:Hid (∀ W,Calls Tryz.prog 193 #[(Pc.pack pa pb pn).bd] W fun e w'=>e=.returned (.int .i64 (Xw:Nat))∧Below W.heap.size W w'):=by rw [hXw];exact fun W=>packWeight_any _ _ _ W
   have HPX:Hid (∀ W,Calls Tryz.prog 192 #[(Pc.pack pa pb pn).bd] W fun e w'=>e=.returned (.int .i64 (Xp:Nat))∧Below W.heap.size W w'):=by rw [hXp];exact fun W=>packPlace_any _ _ _ W (by assumption)
   rw [←hXw,←hXp]
   clear hXw hXp
   generalize (Pc.pack pa pb pn).bd=Xv at *
   obtain ⟨Yw,hYw⟩:∃ x,x=(Pc.pack qa qb qn).wt:=⟨_,rfl⟩
   obtain ⟨Yp,hYp⟩:∃ x,x=(Pc.pack qa qb qn).plc:=⟨_,rfl⟩
   have HWY:Hid (∀ W,Calls Tryz.prog 193 #[(Pc.pack qa qb qn).bd] W fun e w'=>e=.returned (.int .i64 (Yw:Nat))∧Below W.heap.size W w'):=by rw [hYw];exact fun W=>packWeight_any _ _ _ W
   have HPY:Hid (∀ W,Calls Tryz.prog 192 #[(Pc.pack qa qb qn).bd] W fun e w'=>e=.returned (.int .i64 (Yp:Nat))∧Below W.heap.size W w'):=by rw [hYp];exact fun W=>packPlace_any _ _ _ W (by assumption)
   rw [←hYw,←hYp]
   clear hYw hYp
   generalize (Pc.pack qa qb qn).bd=Yv at *
   clear HPF
   go_enter Tryz.func185,Tryz.ntmps185
   go_wp2_with fail
   go_region_held3 (fun W=>W.cell? ⟨b,o+i,none⟩=some (.iface 205 Xv)∧W.cell? ⟨b,o+j,none⟩=some (.iface 205 Yv))
    (first | exact ⟨keep HB.out hbl hp,keep HB.out hbl hq⟩)
    (first
     | (go_at_call 193;refine (HWX.out _).mono ?_;rintro e w8 ⟨rfl,hb8'⟩;have HB:Hid (Below w.heap.size w w8):=HB.out.trans (hb8'.mono HB.out.size);clear hb8')
     | (go_at_call 193;refine (HWY.out _).mono ?_;rintro e w8 ⟨rfl,hb8'⟩;have HB:Hid (Below w.heap.size w w8):=HB.out.trans (hb8'.mono HB.out.size);clear hb8')
     | (go_at_call 187;refine (compare_any _ _ _).mono ?_;rintro e w8 ⟨rfl,hb8'⟩;have HB:Hid (Below w.heap.size w w8):=HB.out.trans (hb8'.mono HB.out.size);clear hb8'))
   all_goals
    go_wp2_with fail
    have HB:Hid (Below w.heap.size w w8.drew):=HB.out.drew
    go_region_held3 (fun W=>W.cell? ⟨b,o+i,none⟩=some (.iface 205 Xv)∧W.cell? ⟨b,o+j,none⟩=some (.iface 205 Yv))
     (first | exact ⟨keep HB.out hbl hp,keep HB.out hbl hq⟩ | exact ⟨keep (HB.out.alloc HB.out.size _) hbl hp,keep (HB.out.alloc HB.out.size _) hbl hq⟩)
     (first
      | (go_at_call 192;refine (HPX.out _).mono ?_;rintro e w8 ⟨rfl,hb8'⟩;have HB:Hid (Below w.heap.size w w8):=HB.out.trans (hb8'.mono HB.out.size);clear hb8')
      | (go_at_call 192;refine (HPY.out _).mono ?_;rintro e w8 ⟨rfl,hb8'⟩;have HB:Hid (Below w.heap.size w w8):=HB.out.trans (hb8'.mono HB.out.size);clear hb8')
      | (go_at_call 187;refine (compare_any _ _ _).mono ?_;rintro e w8 ⟨rfl,hb8'⟩;have HB:Hid (Below w.heap.size w w8):=HB.out.trans (hb8'.mono HB.out.size);clear hb8')
      | (go_at_call 188;refine (or_any _ (cmp3 Xw Yw) (cmp3 Xp Yp) _ (by simp) (by simp)).mono ?_;rintro e w9 ⟨rfl,rfl⟩))
    all_goals
     go_wp2
     go_ret
     exact ⟨by first | rfl | simp,HB.out.alloc HB.out.size _⟩
def OwV (w:World) (B g cap:Nat) (ps:List Pc):Prop:=w.ownsRow B 166 1 (.slice (some ⟨g,0,none⟩) ps.length cap) ps.length (ps.map Pc.vl)
theorem OwV.lt {w:World} {B g cap:Nat} {ps:List Pc} (h:OwV w B g cap ps):B≤g∧g<w.heap.size:=World.ownsRow.lt h g rfl
theorem OwV.cell {w:World} {B g cap:Nat} {ps:List Pc} (h:OwV w B g cap ps) (i:Nat) (hi:i<ps.length):w.cell? ⟨g,i,none⟩=some (ps.getD i dpc).vl:=by
 have:=World.ownsRow.cellAt h i (by omega)
 rw [this]
 simp [List.getElem?_eq_getElem hi]
theorem OwV.caps {w:World} {B g cap:Nat} {ps:List Pc} (h:OwV w B g cap ps):ps.length≤cap∧cap≤maxLen:=by
 rcases h.2 with ⟨h1,_⟩ | ⟨g',cap',cur,h1,_,_,h2,h3,_⟩
 ·cases h1
 ·simp only [Value.slice.injEq] at h1
  omega
theorem OwV.only {S:Nat→Prop} {w w':World} {B g cap:Nat} {ps:List Pc} (h:OwV w B g cap ps) (ho:Only S w w') (hs:¬S g):OwV w' B g cap ps:=by
 refine ⟨h.1,?_⟩
 have hlt:=h.lt.2
 rcases h.2 with ⟨h',_⟩ | ⟨g',cap',cur,h',hg,hh,r⟩
 ·simp at h'
 ·have e:g'=g:=by simp at h';exact h'.1.symm
  subst e
  exact .inr ⟨g',cap',cur,h',hg,(ho.block g' hlt hs).trans hh,r⟩
theorem OwV.store {w:World} {B g cap:Nat} {ps:List Pc} (h:OwV w B g cap ps) (i:Nat) (p:Pc):OwV (w.setCell ⟨g,i,none⟩ p.vl) B g cap (ps.set i p):=by
 have:=(World.ownsRow.stored h i p.vl).1
 unfold OwV
 simpa [List.map_set] using this
theorem OwV.frozen {w:World} {B g cap:Nat} {ps:List Pc} (h:OwV w B g cap ps) (i:Nat):w.frozen? ⟨g,i,none⟩=false:=World.ownsRow.frozenAt h i
theorem OwV.tag {w:World} {B g cap:Nat} {ps:List Pc} (h:OwV w B g cap ps):∃ cur,w.heap[g]?=some (.cells cur 166 (0,0)):=by
 rcases h.2 with ⟨h1,_⟩ | ⟨g',cap',cur,h1,_,hh,_⟩
 ·cases h1
 ·obtain rfl:g=g':=by simp at h1;exact h1.1
  exact ⟨cur,hh⟩
theorem OwV.drop {w:World} {B g cap:Nat} {ps:List Pc} (h:OwV w B g cap ps) (n:Nat) (hn:n≤ps.length):OwV w B g cap (ps.take n):=by
 rcases h.2 with ⟨h1,_⟩ | ⟨g',cap',cur,h1,h2,h3,h4,h5,h6,h7⟩
 ·cases h1
 ·obtain ⟨rfl,-,rfl⟩:g=g'∧ps.length=ps.length∧cap=cap':=by simpa using h1
  refine ⟨by simp,.inr ⟨g,cap,cur,rfl,h2,h3,?_,h5,h6,?_⟩⟩
  ·rw [List.length_take];omega
  ·rw [List.length_take,Nat.min_eq_left hn,List.map_take,←h7,List.take_take]
   congr 1
   omega
def swp (ps:List Pc) (i j:Nat):List Pc:=(ps.set i (ps.getD j dpc)).set j (ps.getD i dpc)
theorem swp_len (ps:List Pc) (i j:Nat):(swp ps i j).length=ps.length:=by simp [swp]
theorem heapLen_any (a:Option Addr) (n c:Nat) (w:World):Calls Tryz.prog 144 #[.slice a n c] w fun e w'=>e=.returned (.int .i64 n)∧w'=w:=by
 go_enter Tryz.func144,Tryz.ntmps144
 go_wp2
 go_ret
 exact ⟨rfl,rfl⟩
theorem swap_any (B g cap:Nat) (ps:List Pc) (i j:Nat) (w:World) (h:OwV w B g cap ps) (hi:i<ps.length) (hj:j<ps.length) :
  Calls Tryz.prog 186 #[.slice (some ⟨g,0,none⟩) ps.length cap,.int .i64 i,.int .i64 j] w fun e w'=>e=.returned (.tuple #[])∧OwV w' B g cap (swp ps i j)∧Only (fun k=>k=g) w w':=by
 have ci:=h.cell i hi
 have cj:=h.cell j hj
 have fi:=h.frozen i
 have fj:=h.frozen j
 have hi2:(i:Int)<(ps.length:Int):=by omega
 have hj2:(j:Int)<(ps.length:Int):=by omega
 have HD:Hid (OwV ((w.setCell ⟨g,i,none⟩ (ps.getD j dpc).vl).setCell ⟨g,j,none⟩ (ps.getD i dpc).vl) B g cap (swp ps i j)∧Only (fun k=>k=g) w ((w.setCell ⟨g,i,none⟩ (ps.getD j dpc).vl).setCell ⟨g,j,none⟩ (ps.getD i dpc).vl)):=by
  refine ⟨?_,((Only.refl (fun k=>k=g) w).setCell (p:=⟨g,i,none⟩) (.inl rfl) _).setCell (p:=⟨g,j,none⟩) (.inl rfl) _⟩
  have h2:=(h.store i (ps.getD j dpc))
  have h3:=h2.store j (ps.getD i dpc)
  exact h3
 have h2:=h.store i (ps.getD j dpc)
 have ck:=h2.cell j (by simpa using hj)
 have fk:=h2.frozen j
 obtain ⟨tk,xk,hvk⟩:=((ps.set i (ps.getD j dpc)).getD j dpc).form
 rw [hvk] at ck
 clear hvk h2
 obtain ⟨ti,xi,hvi⟩:=(ps.getD i dpc).form
 obtain ⟨tj,xj,hvj⟩:=(ps.getD j dpc).form
 rw [hvi] at ci HD
 rw [hvj] at cj ck fk HD
 clear hvi hvj
 clear h
 generalize ps.length=n at *
 go_enter Tryz.func186,Tryz.ntmps186
 go_wp2_with fail
 go_region
 all_goals
  go_wp2
  go_end0
  exact ⟨rfl,HD.out.1,HD.out.2.drew⟩
def kAt (ps:List Pc) (i:Nat):Nat:=(ps.getD i dpc).key
def HO (ps:List Pc) (lo n x:Nat):Prop:=∀ p c,(c=2*p+1∨c=2*p+2)→c<n→lo≤p→p≠x→kAt ps p≤kAt ps c
def HG (ps:List Pc) (lo n x:Nat):Prop:=∀ p c,(x=2*p+1∨x=2*p+2)→(c=2*x+1∨c=2*x+2)→c<n→lo≤p→kAt ps p≤kAt ps c
theorem swp_get (ps:List Pc) (i j k:Nat) (hi:i<ps.length) (hj:j<ps.length):(swp ps i j).getD k dpc=if k=j then ps.getD i dpc else if k=i then ps.getD j dpc else ps.getD k dpc:=by
 unfold swp
 simp only [List.getD_eq_getElem?_getD,List.getElem?_set,List.length_set]
 by_cases h1:k=j
 ·subst h1
  simp [hj]
 ·have h1':¬j=k:=fun e=>h1 e.symm
  by_cases h2:k=i
  ·subst h2
   simp [h1,h1',hi]
  ·have h2':¬i=k:=fun e=>h2 e.symm
   simp [h1,h1',h2,h2']
theorem kAt_swp (ps:List Pc) (i j k:Nat) (hi:i<ps.length) (hj:j<ps.length):kAt (swp ps i j) k=if k=j then kAt ps i else if k=i then kAt ps j else kAt ps k:=by
 unfold kAt
 rw [swp_get ps i j k hi hj]
 repeat' split
 all_goals rfl
theorem HO_start {ps:List Pc} {lo n:Nat} (h:HO ps (lo+1) n n):HO ps lo n lo:=fun p c hc hn hl hx=>h p c hc hn (by omega) (by omega)
theorem HG_start (ps:List Pc) (lo n:Nat):HG ps lo n lo:=fun p c hx _ _ hl=>by omega
theorem HO_leaf {ps:List Pc} {lo n i:Nat} (h:HO ps lo n i) (hi:n≤2*i+1):HO ps lo n n:=fun p c hc hn hl hx=>h p c hc hn hl (by omega)
theorem HO_done {ps:List Pc} {lo n i j:Nat} (h:HO ps lo n i) (hj:∀ c,(c=2*i+1∨c=2*i+2)→c<n→kAt ps j≤kAt ps c) (hij:kAt ps i≤kAt ps j):HO ps lo n n:=fun p c hc hn hl hx=>by
 by_cases hp:p=i
 ·subst hp
  exact Nat.le_trans hij (hj c hc hn)
 ·exact h p c hc hn hl hp
theorem HO_swap {ps:List Pc} {lo n i j:Nat} (h:HO ps lo n i) (hg:HG ps lo n i) (hlo:lo≤i) (hj:j=2*i+1∨j=2*i+2) (hjn:j<n) (hn:n≤ps.length) (hm:∀ c,(c=2*i+1∨c=2*i+2)→c<n→kAt ps j≤kAt ps c) (hlt:kAt ps j<kAt ps i) :
  HO (swp ps i j) lo n j∧HG (swp ps i j) lo n j:=by
 have hk:=fun k=>kAt_swp ps i j k (by omega) (by omega)
 constructor
 ·intro p c hc hcn hl hp
  rw [hk p,hk c,if_neg hp]
  by_cases h1:p=i
  ·subst h1
   rw [if_pos rfl]
   by_cases h2:c=j
   ·rw [if_pos h2];omega
   ·rw [if_neg h2,if_neg (by omega)]
    exact hm c hc hcn
  ·rw [if_neg h1]
   by_cases h2:c=j
   ·omega
   ·rw [if_neg h2]
    by_cases h3:c=i
    ·rw [if_pos h3]
     subst h3
     exact hg p j hc hj hjn hl
    ·rw [if_neg h3]
     exact h p c hc hcn hl h1
 ·intro p c hx hc hcn hl
  have hpi:p=i:=by omega
  subst hpi
  rw [hk p,hk c,if_neg (by omega),if_pos rfl,if_neg (by omega),if_neg (by omega)]
  exact h j c hc hcn (by omega) (by omega)
theorem swp_perm (ps:List Pc) (i j:Nat) (hi:i<ps.length) (hj:j<ps.length):(swp ps i j).Perm ps:=by
 unfold swp
 rw [show ps.getD i dpc=ps[i] by simp [List.getD_eq_getElem?_getD,hi],show ps.getD j dpc=ps[j] by simp [List.getD_eq_getElem?_getD,hj]]
 exact List.set_set_perm hi hj
structure HpS (W:World) (B H g cap:Nat) (ps:List Pc):Prop where
 blk:W.heap[H]?=some (.cells #[.slice (some ⟨g,0,none⟩) ps.length cap] 199 (0,0))
 row:OwV W B g cap ps
 fin:∀ p ∈ ps,p.fine
theorem HpS.c0 {W:World} {B H g cap:Nat} {ps:List Pc} (h:HpS W B H g cap ps):W.cell? ⟨H,0,none⟩=some (.slice (some ⟨g,0,none⟩) ps.length cap):=by
 rw [cell_of_row W H 0 _ _ (0,0) h.blk];rfl
theorem HpS.lt {W:World} {B H g cap:Nat} {ps:List Pc} (h:HpS W B H g cap ps):H<W.heap.size:=(Array.getElem?_eq_some_iff.1 h.blk).1
theorem HpS.ne {W:World} {B H g cap:Nat} {ps:List Pc} (h:HpS W B H g cap ps):H≠g:=fun e=>by
 obtain ⟨cur,hc⟩:=h.row.tag
 rw [←e,h.blk] at hc
 simp at hc
theorem HpS.below {W W':World} {B H g cap:Nat} {ps:List Pc} (h:HpS W B H g cap ps) (hb:Below W.heap.size W W'):HpS W' B H g cap ps:=
 ⟨(hb.block H h.lt).trans h.blk,h.row.only (Only.ofBelow (S:=fun _=>False) hb nl) (by simp),h.fin⟩
theorem HpS.fineAt {W:World} {B H g cap:Nat} {ps:List Pc} (h:HpS W B H g cap ps) (i:Nat):(ps.getD i dpc).fine:=by
 rw [List.getD_eq_getElem?_getD]
 cases he:ps[i]? with
 | none=>exact ⟨by simp [dpc,Pc.wt],by simp [dpc,Pc.plc]⟩
 | some p=>exact h.fin p (List.mem_of_getElem? he)
theorem HpS.less {W:World} {B H g cap:Nat} {ps:List Pc} (h:HpS W B H g cap ps) (i j:Nat) (hi:i<ps.length) (hj:j<ps.length) :
  Calls Tryz.prog 185 #[.slice (some ⟨g,0,none⟩) ps.length cap,.int .i64 i,.int .i64 j] W fun e w'=>e=.returned (.bool (decide (kAt ps i<kAt ps j)))∧Below W.heap.size W w':=
 less_two g 0 i j ps.length cap (ps.getD i dpc) (ps.getD j dpc) W h.row.lt.2 (by rw [Nat.zero_add];exact h.row.cell i hi) (by rw [Nat.zero_add];exact h.row.cell j hj) (h.fineAt i) (h.fineAt j) hi hj
theorem Tryz.methH_Less (H : Nat) (w : World) : Sem.run Tryz.prog (method 383 201 (.pointer (some ⟨H, 0, none⟩)) "Less") w = Sem.run Tryz.prog (do let v ← loadVar 199 ⟨H, 0, none⟩; pure (185, v)) w := by kernel_rfl
theorem HpS.mLess {w : World} {B H g cap : Nat} {ps : List Pc} (h : HpS w B H g cap ps) : Sem.run Tryz.prog (method 383 201 (.pointer (some ⟨H, 0, none⟩)) "Less") w = .ok (185, .slice (some ⟨g, 0, none⟩) ps.length cap) w := by
 rw [Tryz.methH_Less]
 simp [loadVar,isAgg,h.c0]
theorem Tryz.methH_Swap (H : Nat) (w : World) : Sem.run Tryz.prog (method 383 201 (.pointer (some ⟨H, 0, none⟩)) "Swap") w = Sem.run Tryz.prog (do let v ← loadVar 199 ⟨H, 0, none⟩; pure (186, v)) w := by kernel_rfl
theorem HpS.mSwap {w : World} {B H g cap : Nat} {ps : List Pc} (h : HpS w B H g cap ps) : Sem.run Tryz.prog (method 383 201 (.pointer (some ⟨H, 0, none⟩)) "Swap") w = .ok (186, .slice (some ⟨g, 0, none⟩) ps.length cap) w := by
 rw [Tryz.methH_Swap]
 simp [loadVar,isAgg,h.c0]
theorem Tryz.methH_Len (H : Nat) (w : World) : Sem.run Tryz.prog (method 383 201 (.pointer (some ⟨H, 0, none⟩)) "Len") w = Sem.run Tryz.prog (do let v ← loadVar 199 ⟨H, 0, none⟩; pure (144, v)) w := by kernel_rfl
theorem HpS.mLen {w : World} {B H g cap : Nat} {ps : List Pc} (h : HpS w B H g cap ps) : Sem.run Tryz.prog (method 383 201 (.pointer (some ⟨H, 0, none⟩)) "Len") w = .ok (144, .slice (some ⟨g, 0, none⟩) ps.length cap) w := by
 rw [Tryz.methH_Len]
 simp [loadVar,isAgg,h.c0]
theorem HpS.swap {W:World} {B H g cap:Nat} {ps:List Pc} (h:HpS W B H g cap ps) (i j:Nat) (hi:i<ps.length) (hj:j<ps.length) :
  Calls Tryz.prog 186 #[.slice (some ⟨g,0,none⟩) ps.length cap,.int .i64 i,.int .i64 j] W fun e w'=>e=.returned (.tuple #[])∧HpS w' B H g cap (swp ps i j)∧Only (fun k=>k=g) W w':=by
 refine (swap_any B g cap ps i j W h.row hi hj).mono ?_
 rintro e w' ⟨rfl,h1,h2⟩
 refine ⟨rfl,⟨?_,h1,fun p hp=>h.fin p ((swp_perm ps i j hi hj).mem_iff.1 hp)⟩,h2⟩
 rw [swp_len]
 exact (h2.block H h.lt h.ne).trans h.blk
theorem down_any (B H g cap lo n:Nat) (ps:List Pc) (w:World) (h:HpS w B H g cap ps) (hn:n≤ps.length) (hm:ps.length≤1000) (hlo:lo≤1000) (ho:HO ps (lo+1) n n) :
  Calls Tryz.prog 159 #[.iface 201 (.pointer (some ⟨H,0,none⟩)),.int .i64 lo,.int .i64 n] w fun e w'=>(∃ b:Bool,e=.returned (.bool b)) ∧
   ∃ qs:List Pc,qs.Perm ps∧HpS w' B H g cap qs∧HO qs lo n n∧(∀ k,n≤k→qs.getD k dpc=ps.getD k dpc)∧Only (fun k=>k=g) w w':=by
 have H0:Hid (HpS w B H g cap ps∧HO ps lo n lo):=⟨h,HO_start ho⟩
 have HN:Hid (n≤ps.length∧ps.length≤1000):=⟨hn,hm⟩
 have hn1:n≤1000:=by omega
 clear h ho hn hm
 go_enter Tryz.func159,Tryz.ntmps159
 go_wp2
 go_loopw [7] (fun i W=>∃ (k:Nat) (qs:List Pc),i=.int .i64 k∧lo≤k∧k≤1000∧qs.Perm ps∧HpS W B H g cap qs∧HO qs lo n k∧HG qs lo n k∧(∀ k,n≤k→qs.getD k dpc=ps.getD k dpc)∧Only (fun k=>k=g) w W) (fun i _=>1000-(intOf i).toNat)
 case atStart=>exact ⟨lo,ps,rfl,Nat.le_refl _,hlo,List.Perm.refl _,H0.out.1,H0.out.2,HG_start ps lo n,fun _ _=>rfl,Only.refl _ _⟩
 case round=>
  obtain ⟨k,qs,rfl,hk,hk2,hperm,hps,hho,hhg,hge,hon⟩:=hrel
  have HR:Hid (qs.Perm ps∧HpS wr B H g cap qs∧HO qs lo n k∧HG qs lo n k∧(∀ k,n≤k→qs.getD k dpc=ps.getD k dpc)∧Only (fun k=>k=g) w wr):=⟨hperm,hps,hho,hhg,hge,hon⟩
  have hql:qs.length=ps.length:=hperm.length_eq
  have HQL:Hid (n≤qs.length∧qs.length≤1000):=by unfold Hid;rw [hql];exact HN.out
  have hml:=hps.mLess
  have hms:=hps.mSwap
  clear hperm hps hho hhg hge hon hql
  obtain ⟨j1,hj1⟩:∃ j,j=2*k+1:=⟨_,rfl⟩
  have hj1i:2*(k:Int)+1=(j1:Int):=by omega
  have HJ1:Hid (j1=2*k+1∧True):=⟨hj1,trivial⟩
  have hj1b:j1≤2001:=by omega
  clear hj1
  by_cases hA:n≤j1
  ·have hA2:(n:Int)≤(j1:Int):=by omega
   have hL:HO qs lo n n:=HO_leaf HR.out.2.2.1 (by have:=HJ1.out.1;omega)
   go_wp2
   go_ret
   exact ⟨⟨_,rfl⟩,qs,HR.out.1,HR.out.2.1,hL,HR.out.2.2.2.2.1,HR.out.2.2.2.2.2⟩
  ·have hA2:¬(n:Int)≤(j1:Int):=by omega
   have hA3:¬(j1:Int)<0:=by omega
   have hkn:k<qs.length:=by have:=HJ1.out.1;have:=HQL.out.1;omega
   have hj1q:j1<qs.length:=by have:=HQL.out.1;omega
   obtain ⟨j2,hj2⟩:∃ j,j=j1+1:=⟨_,rfl⟩
   have hj2i:(j1:Int)+1=(j2:Int):=by omega
   have HJ2:Hid (j2=j1+1∧True):=⟨hj2,trivial⟩
   have hj2b:j2≤2002:=by omega
   clear hj2
   by_cases hB:n≤j2
   ·have hB2:¬(j2:Int)<(n:Int):=by omega
    have hd:decide ((j2:Int)<(n:Int))=false:=decide_eq_false hB2
    have HL2:=(HR.out.2.1).less j1 k (by omega) (by omega)
    go_wp2_with fail
    refine HL2.mono ?_
    clear HL2
    rintro e w2 ⟨rfl,hb2⟩
    have hp2:=(HR.out.2.1).below hb2
    have HP2:Hid (HpS w2 B H g cap qs∧Only (fun k=>k=g) w w2):=⟨hp2,HR.out.2.2.2.2.2.trans (Only.ofBelow hb2 nl)⟩
    have hms2:=hp2.mSwap
    clear hb2 hp2
    by_cases hc:kAt qs j1<kAt qs k
    ·rw [decide_eq_true hc]
     have HSW:=HP2.out.1.swap k j1 (by omega) (by omega)
     have HSO:=HO_swap HR.out.2.2.1 HR.out.2.2.2.1 hk (j:=j1) (by have:=HJ1.out.1;have:=HJ2.out.1;omega) (by omega) HQL.out.1 (by intro c hc hcn;have h1:=HJ1.out.1;have h2:=HJ2.out.1;rw [show c=j1 by omega];exact Nat.le_refl _) hc
     have HFX:Hid ((swp qs k j1).Perm ps∧HO (swp qs k j1) lo n j1∧HG (swp qs k j1) lo n j1∧(∀ i,n≤i→(swp qs k j1).getD i dpc=ps.getD i dpc)):=by
      refine ⟨(swp_perm qs k j1 (by omega) (by omega)).trans HR.out.1,HSO.1,HSO.2,fun i hi=>?_⟩
      rw [swp_get qs k j1 i (by omega) (by omega),if_neg (by omega),if_neg (by have:=HJ1.out.1;omega)]
      exact HR.out.2.2.2.2.1 i hi
     clear hc HSO
     go_wp2_with fail
     refine HSW.mono ?_
     clear HSW
     rintro e w3 ⟨rfl,hp3,ho3⟩
     have HP3:Hid (HpS w3 B H g cap (swp qs k j1)∧Only (fun k=>k=g) w w3):=⟨hp3,HP2.out.2.trans ho3⟩
     clear hp3 ho3
     go_wp2
     go_roundw
     case rel=>exact ⟨j1,swp qs k j1,rfl,by have:=HJ1.out.1;have:=HJ2.out.1;omega,by omega,HFX.out.1,HP3.out.1,HFX.out.2.1,HFX.out.2.2.1,HFX.out.2.2.2,HP3.out.2⟩
     case measure=>simp [intOf];have:=HJ1.out.1;have:=HJ2.out.1;omega
    ·rw [decide_eq_false hc]
     have hD:HO qs lo n n:=HO_done HR.out.2.2.1 (j:=j1) (by intro c hc hcn;have h1:=HJ1.out.1;have h2:=HJ2.out.1;rw [show c=j1 by omega];exact Nat.le_refl _) (by omega)
     clear hc
     go_wp2
     go_ret
     exact ⟨⟨_,rfl⟩,qs,HR.out.1,HP2.out.1,hD,HR.out.2.2.2.2.1,HP2.out.2⟩
   ·have hB2:(j2:Int)<(n:Int):=by omega
    have hd:decide ((j2:Int)<(n:Int))=true:=decide_eq_true hB2
    have hj2q:j2<qs.length:=by have:=HQL.out.1;omega
    have HL1:=HR.out.2.1.less j2 j1 (by omega) (by omega)
    by_cases hc1:kAt qs j2<kAt qs j1
    ·rw [decide_eq_true hc1] at HL1
     have HC1:Hid (kAt qs j2<kAt qs j1∧True):=⟨hc1,trivial⟩
     clear hc1
     go_wp2_with fail
     refine HL1.mono ?_
     clear HL1
     rintro e w1 ⟨rfl,hb1⟩
     have hp1:=HR.out.2.1.below hb1
     have HP1:Hid (HpS w1 B H g cap qs∧Only (fun k=>k=g) w w1):=⟨hp1,HR.out.2.2.2.2.2.trans (Only.ofBelow hb1 nl)⟩
     have hml1:=hp1.mLess
     clear hb1 hp1
     have HL2:=(HP1.out.1).less j2 k (by omega) (by omega)
     go_wp2_with fail
     refine HL2.mono ?_
     clear HL2
     rintro e w2 ⟨rfl,hb2⟩
     have hp2:=(HP1.out.1).below hb2
     have HP2:Hid (HpS w2 B H g cap qs∧Only (fun k=>k=g) w w2):=⟨hp2,HP1.out.2.trans (Only.ofBelow hb2 nl)⟩
     have hms2:=hp2.mSwap
     clear hb2 hp2
     by_cases hc:kAt qs j2<kAt qs k
     ·rw [decide_eq_true hc]
      have HSW:=HP2.out.1.swap k j2 (by omega) (by omega)
      have HSO:=HO_swap HR.out.2.2.1 HR.out.2.2.2.1 hk (j:=j2) (by have:=HJ1.out.1;have:=HJ2.out.1;omega) (by omega) HQL.out.1 (by intro c hc hcn;have h1:=HJ1.out.1;have h2:=HJ2.out.1;have h3:=HC1.out.1;rcases (show c=j1∨c=j2 by omega) with rfl | rfl <;> omega) hc
      have HFX:Hid ((swp qs k j2).Perm ps∧HO (swp qs k j2) lo n j2∧HG (swp qs k j2) lo n j2∧(∀ i,n≤i→(swp qs k j2).getD i dpc=ps.getD i dpc)):=by
       refine ⟨(swp_perm qs k j2 (by omega) (by omega)).trans HR.out.1,HSO.1,HSO.2,fun i hi=>?_⟩
       rw [swp_get qs k j2 i (by omega) (by omega),if_neg (by omega),if_neg (by have:=HJ1.out.1;omega)]
       exact HR.out.2.2.2.2.1 i hi
      clear hc HSO
      go_wp2_with fail
      refine HSW.mono ?_
      clear HSW
      rintro e w3 ⟨rfl,hp3,ho3⟩
      have HP3:Hid (HpS w3 B H g cap (swp qs k j2)∧Only (fun k=>k=g) w w3):=⟨hp3,HP2.out.2.trans ho3⟩
      clear hp3 ho3
      go_wp2
      go_roundw
      case rel=>exact ⟨j2,swp qs k j2,rfl,by have:=HJ1.out.1;have:=HJ2.out.1;omega,by omega,HFX.out.1,HP3.out.1,HFX.out.2.1,HFX.out.2.2.1,HFX.out.2.2.2,HP3.out.2⟩
      case measure=>simp [intOf];have:=HJ1.out.1;have:=HJ2.out.1;omega
     ·rw [decide_eq_false hc]
      have hD:HO qs lo n n:=HO_done HR.out.2.2.1 (j:=j2) (by intro c hc hcn;have h1:=HJ1.out.1;have h2:=HJ2.out.1;have h3:=HC1.out.1;rcases (show c=j1∨c=j2 by omega) with rfl | rfl <;> omega) (by omega)
      clear hc
      go_wp2
      go_ret
      exact ⟨⟨_,rfl⟩,qs,HR.out.1,HP2.out.1,hD,HR.out.2.2.2.2.1,HP2.out.2⟩
    ·rw [decide_eq_false hc1] at HL1
     have HC1:Hid (¬kAt qs j2<kAt qs j1∧True):=⟨hc1,trivial⟩
     clear hc1
     go_wp2_with fail
     refine HL1.mono ?_
     clear HL1
     rintro e w1 ⟨rfl,hb1⟩
     have hp1:=HR.out.2.1.below hb1
     have HP1:Hid (HpS w1 B H g cap qs∧Only (fun k=>k=g) w w1):=⟨hp1,HR.out.2.2.2.2.2.trans (Only.ofBelow hb1 nl)⟩
     have hml1:=hp1.mLess
     clear hb1 hp1
     have HL2:=(HP1.out.1).less j1 k (by omega) (by omega)
     go_wp2_with fail
     refine HL2.mono ?_
     clear HL2
     rintro e w2 ⟨rfl,hb2⟩
     have hp2:=(HP1.out.1).below hb2
     have HP2:Hid (HpS w2 B H g cap qs∧Only (fun k=>k=g) w w2):=⟨hp2,HP1.out.2.trans (Only.ofBelow hb2 nl)⟩
     have hms2:=hp2.mSwap
     clear hb2 hp2
     by_cases hc:kAt qs j1<kAt qs k
     ·rw [decide_eq_true hc]
      have HSW:=HP2.out.1.swap k j1 (by omega) (by omega)
      have HSO:=HO_swap HR.out.2.2.1 HR.out.2.2.2.1 hk (j:=j1) (by have:=HJ1.out.1;have:=HJ2.out.1;omega) (by omega) HQL.out.1 (by intro c hc hcn;have h1:=HJ1.out.1;have h2:=HJ2.out.1;have h3:=HC1.out.1;rcases (show c=j1∨c=j2 by omega) with rfl | rfl <;> omega) hc
      have HFX:Hid ((swp qs k j1).Perm ps∧HO (swp qs k j1) lo n j1∧HG (swp qs k j1) lo n j1∧(∀ i,n≤i→(swp qs k j1).getD i dpc=ps.getD i dpc)):=by
       refine ⟨(swp_perm qs k j1 (by omega) (by omega)).trans HR.out.1,HSO.1,HSO.2,fun i hi=>?_⟩
       rw [swp_get qs k j1 i (by omega) (by omega),if_neg (by omega),if_neg (by have:=HJ1.out.1;omega)]
       exact HR.out.2.2.2.2.1 i hi
      clear hc HSO
      go_wp2_with fail
      refine HSW.mono ?_
      clear HSW
      rintro e w3 ⟨rfl,hp3,ho3⟩
      have HP3:Hid (HpS w3 B H g cap (swp qs k j1)∧Only (fun k=>k=g) w w3):=⟨hp3,HP2.out.2.trans ho3⟩
      clear hp3 ho3
      go_wp2
      go_roundw
      case rel=>exact ⟨j1,swp qs k j1,rfl,by have:=HJ1.out.1;have:=HJ2.out.1;omega,by omega,HFX.out.1,HP3.out.1,HFX.out.2.1,HFX.out.2.2.1,HFX.out.2.2.2,HP3.out.2⟩
      case measure=>simp [intOf];have:=HJ1.out.1;have:=HJ2.out.1;omega
     ·rw [decide_eq_false hc]
      have hD:HO qs lo n n:=HO_done HR.out.2.2.1 (j:=j1) (by intro c hc hcn;have h1:=HJ1.out.1;have h2:=HJ2.out.1;have h3:=HC1.out.1;rcases (show c=j1∨c=j2 by omega) with rfl | rfl <;> omega) (by omega)
      clear hc
      go_wp2
      go_ret
      exact ⟨⟨_,rfl⟩,qs,HR.out.1,HP2.out.1,hD,HR.out.2.2.2.2.1,HP2.out.2⟩
theorem HO_half (ps:List Pc) (n:Nat):HO ps (n / 2) n n:=fun p c hc hn hl _=>by omega
theorem HO_min {ps:List Pc} {n:Nat} (h:HO ps 0 n n):∀ i,i<n→kAt ps 0≤kAt ps i:=by
 intro i
 induction i using Nat.strongRecOn with
 | ind i ih=>
  intro hi
  by_cases h0:i=0
  ·rw [h0];exact Nat.le_refl _
  ·have h1:=ih ((i-1) / 2) (by omega) (by omega)
   have h2:=h ((i-1) / 2) i (by omega) hi (Nat.zero_le _) (by omega)
   omega
theorem HO_swap0 {ps:List Pc} {n:Nat} (h:HO ps 0 (n+1) (n+1)) (hn:n<ps.length):HO (swp ps 0 n) (0+1) n n:=fun p c hc hcn hl hp=>by
 rw [kAt_swp ps 0 n p (by omega) hn,kAt_swp ps 0 n c (by omega) hn,if_neg (by omega),if_neg (by omega),if_neg (by omega),if_neg (by omega)]
 exact h p c hc (by omega) (Nat.zero_le _) (by omega)
theorem HO_take {ps:List Pc} {n:Nat} (h:HO ps 0 n n):HO (ps.take n) 0 n n:=fun p c hc hcn hl hp=>by
 have he:∀ i,i<n→kAt (ps.take n) i=kAt ps i:=fun i hi=>by
  unfold kAt
  simp [List.getD_eq_getElem?_getD,List.getElem?_take,hi]
 rw [he p (by omega),he c hcn]
 exact h p c hc hcn hl hp
theorem init_any (B H g cap:Nat) (ps:List Pc) (w:World) (h:HpS w B H g cap ps) (hm:ps.length≤1000) :
  Calls Tryz.prog 143 #[.iface 201 (.pointer (some ⟨H,0,none⟩))] w fun e w'=>e=.returned (.tuple #[]) ∧
   ∃ qs:List Pc,qs.Perm ps∧HpS w' B H g cap qs∧HO qs 0 ps.length ps.length∧Only (fun k=>k=g) w w':=by
 have H0:Hid (HpS w B H g cap ps):=h
 have hml:=h.mLen
 have HL:=heapLen_any (some ⟨g,0,none⟩) ps.length cap w
 obtain ⟨n,hn⟩:∃ n,n=ps.length:=⟨_,rfl⟩
 have HN:Hid (ps.length=n∧True):=⟨hn.symm,trivial⟩
 rw [←hn] at hml HL hm ⊢
 clear h hn
 obtain ⟨m,hm2⟩:∃ m,m=n / 2:=⟨_,rfl⟩
 have hq:Int.tdiv (n:Int) 2=(m:Int):=by rw [Int.tdiv_eq_ediv_of_nonneg (by omega)];omega
 have hmb:m≤500:=by omega
 have HM:Hid (m=n / 2∧True):=⟨hm2,trivial⟩
 clear hm2
 go_enter Tryz.func143,Tryz.ntmps143
 go_wp2_with fail
 refine HL.mono ?_
 clear HL hml
 rintro e w1 ⟨rfl,rfl⟩
 go_wp2
 go_loopw [3] (fun i W=>∃ (k:Nat) (qs:List Pc),i=.int .i64 ((k:Int)-1)∧k≤m∧qs.Perm ps∧HpS W B H g cap qs∧HO qs k n n∧Only (fun k=>k=g) w1 W) (fun i _=>(intOf i+1).toNat)
 case atStart=>exact ⟨m,ps,by first | rfl | go_num,Nat.le_refl _,List.Perm.refl _,H0.out,by rw [HM.out.1];exact HO_half ps n,Only.refl _ _⟩
 case round=>
  obtain ⟨k,qs,rfl,hk,hperm,hps,hho,hon⟩:=hrel
  have HR:Hid (qs.Perm ps∧HpS wr B H g cap qs∧HO qs k n n∧Only (fun k=>k=g) w1 wr):=⟨hperm,hps,hho,hon⟩
  clear hperm hps hho hon
  cases k with
  | zero=>
   go_wp2
   go_end0
   exact ⟨rfl,qs,HR.out.1,HR.out.2.1,HR.out.2.2.1,HR.out.2.2.2⟩
  | succ k=>
   have e1:((k+1:Nat):Int)-1=(k:Int):=by omega
   rw [e1]
   have hk0:(0:Int)≤(k:Int):=by omega
   have HD:=down_any B H g cap k n qs wr HR.out.2.1 (by rw [HR.out.1.length_eq,HN.out.1];exact Nat.le_refl _) (by rw [HR.out.1.length_eq,HN.out.1];omega) (by omega) HR.out.2.2.1
   go_wp2_with fail
   refine HD.mono ?_
   clear HD
   rintro e w2 ⟨⟨b,rfl⟩,rs,hp2,hs2,ho2,-,on2⟩
   have HS:Hid (rs.Perm ps∧HpS w2 B H g cap rs∧HO rs k n n∧Only (fun k=>k=g) w1 w2):=⟨hp2.trans HR.out.1,hs2,ho2,HR.out.2.2.2.trans on2⟩
   clear hp2 hs2 ho2 on2 e1
   go_wp2
   go_roundw
   case rel=>exact ⟨k,rs,by first | rfl | go_num,by omega,HS.out.1,HS.out.2.1,HS.out.2.2.1,HS.out.2.2.2⟩
   case measure=>first | (simp [intOf];done) | (simp [intOf];omega)
theorem Tryz.methH_Pop (H : Nat) (w : World) : Sem.run Tryz.prog (method 383 201 (.pointer (some ⟨H, 0, none⟩)) "Pop") w = .ok (190, .pointer (some ⟨H, 0, none⟩)) w := by kernel_rfl
theorem popLast_any (B H g cap n:Nat) (ps:List Pc) (w:World) (h:HpS w B H g cap ps) (hn:ps.length=n+1) (hm:n≤1000) (hB:B≤H) :
  Calls Tryz.prog 190 #[.pointer (some ⟨H,0,none⟩)] w fun e w'=>e=.returned (ps.getD n dpc).vl∧HpS w' B H g cap (ps.take n)∧Only (fun k=>k=H) w w':=by
 have c0:=h.c0
 have cl:=h.row.cell n (by omega)
 have hcap:=h.row.caps
 have f0:=frozen_of_row w H 0 _ _ h.blk
 have HE:Hid (HpS (w.setCell ⟨H,0,none⟩ (.slice (some ⟨g,0,none⟩) n cap)) B H g cap (ps.take n)∧Only (fun k=>k=H) w (w.setCell ⟨H,0,none⟩ (.slice (some ⟨g,0,none⟩) n cap))):=by
  have hon:Only (fun k=>k=H) w (w.setCell ⟨H,0,none⟩ (.slice (some ⟨g,0,none⟩) n cap)):=(Only.refl (fun k=>k=H) w).setCell (p:=⟨H,0,none⟩) (.inl rfl) _
  refine ⟨⟨?_,((h.row.drop n (by omega)).only hon (fun e=>h.ne e.symm)),fun p hp=>h.fin p (List.mem_of_mem_take hp)⟩,hon⟩
  rw [heap_setCell_same _ H 0 _ _ _ h.blk,List.length_take,Nat.min_eq_left (by omega)]
  rfl
 obtain ⟨tl,xl,hvl⟩:=(ps.getD n dpc).form
 rw [hvl] at cl ⊢
 clear hvl h
 have hi:((ps.length:Nat):Int)-1=(n:Int):=by omega
 have hi2:(n:Int)<(ps.length:Int):=by omega
 have hi3:¬(ps.length:Int)≤(n:Int):=by omega
 have hnc:(n:Int)≤(cap:Int):=by omega
 clear hcap
 obtain ⟨N,hN⟩:∃ N,N=ps.length:=⟨_,rfl⟩
 rw [←hN] at c0 hi hi2 hi3
 clear hN hn
 obtain ⟨i0,hif,hz0,hz1,hz2⟩:=info_parts (show (Tryz.prog.info? 166).map (fun i=>(i.zero,i.size,i.bytes))=some (some .nilIface,1,16) by kernel_rfl)
 have hsl:∀ W,(Instr.slice 199 (.slice (some ⟨g,0,none⟩) N cap) none (some (.int .i64 (n:Int))) none).run Tryz.prog W=.ok (.slice (some ⟨g,0,none⟩) n cap) W:=by
  intro W
  rw [run_slice_h W 199 _ _ _ (by simp [Program.elem,Tryz.underlying199]) .i64 _ (by omega) (by omega)]
  simp [Program.elem,Tryz.underlying199,Go.sizeOf,typeInfo,hif,hz1,Result.andThen,sliced,Addr.add]
 go_enter Tryz.func190,Tryz.ntmps190
 go_wp2
 go_ret
 exact ⟨rfl,HE.out.1,HE.out.2⟩
theorem pop_any (B H g cap n:Nat) (ps:List Pc) (w:World) (h:HpS w B H g cap ps) (hn:ps.length=n+1) (hm:n≤999) (hB:B≤H) (ho:HO ps 0 (n+1) (n+1)) :
  Calls Tryz.prog 145 #[.iface 201 (.pointer (some ⟨H,0,none⟩))] w fun e w'=>e=.returned (ps.getD 0 dpc).vl ∧
   ∃ qs:List Pc,(ps.getD 0 dpc :: qs).Perm ps∧qs.length=n∧HpS w' B H g cap qs∧HO qs 0 n n∧Only (fun k=>k=g∨k=H) w w':=by
 have H0:Hid (HpS w B H g cap ps):=h
 have hml:=h.mLen
 have HL:=heapLen_any (some ⟨g,0,none⟩) ps.length cap w
 have hms:=h.mSwap
 have HSW:=h.swap 0 n (by omega) (by omega)
 have HS1:Hid (HO (swp ps 0 n) (0+1) n n∧(swp ps 0 n).Perm ps∧(swp ps 0 n).getD n dpc=ps.getD 0 dpc):=⟨HO_swap0 ho (by omega),swp_perm ps 0 n (by omega) (by omega),by rw [swp_get ps 0 n n (by omega) (by omega),if_pos rfl]⟩
 have hmp:=Tryz.methH_Pop H
 have HN:Hid (ps.length=n+1∧True):=⟨hn,trivial⟩
 rw [hn] at hml HL hms HSW
 have hi:((n+1:Nat):Int)-1=(n:Int):=by omega
 clear h hn ho
 go_enter Tryz.func145,Tryz.ntmps145
 go_wp2_with fail
 refine HL.mono ?_
 clear HL hml
 rintro e w1 ⟨rfl,rfl⟩
 go_wp2_with fail
 refine HSW.mono ?_
 clear HSW hms
 rintro e w2 ⟨rfl,hp2,on2⟩
 have HD:=down_any B H g cap 0 n (swp ps 0 n) w2 hp2 (by rw [swp_len,HN.out.1];omega) (by rw [swp_len,HN.out.1];omega) (by omega) HS1.out.1
 go_wp2_with fail
 refine HD.mono ?_
 clear HD hp2
 rintro e w3 ⟨⟨b,rfl⟩,rs,hp3,hs3,ho3,hg3,on3⟩
 have hrl:rs.length=n+1:=by rw [hp3.length_eq,swp_len];exact HN.out.1
 have HPL:=popLast_any B H g cap n rs w3 hs3 hrl (by omega) hB
 have hlast:rs.getD n dpc=ps.getD 0 dpc:=(hg3 n nl).trans HS1.out.2.2
 have hpm:(ps.getD 0 dpc :: rs.take n).Perm ps:=by
  have h1:rs=rs.take n++[rs.getD n dpc]:=by
   have h2:=List.take_succ_eq_append_getElem (l:=rs) (i:=n) (by omega)
   rw [List.take_of_length_le (by omega)] at h2
   rw [List.getD_eq_getElem?_getD,List.getElem?_eq_getElem (by omega)]
   exact h2
  rw [hlast] at h1
  refine List.Perm.trans ?_ (hp3.trans HS1.out.2.1)
  rw [h1]
  rw [List.take_append_of_le_length (by rw [List.length_take];omega),List.take_take,Nat.min_self]
  exact (List.perm_append_singleton _ _).symm
 have HF:Hid ((ps.getD 0 dpc :: rs.take n).Perm ps∧(rs.take n).length=n∧HO (rs.take n) 0 n n∧Only (fun k=>k=g∨k=H) w1 w3):=⟨hpm,by rw [List.length_take];omega,HO_take ho3,(on2.mono (fun _ _ h=>.inl h)).trans (on3.mono (fun _ _ h=>.inl h))⟩
 rw [hlast] at HPL
 clear hs3 hp3 ho3 hg3 on3 on2 hrl hlast hpm
 go_wp2_with fail
 refine HPL.mono ?_
 clear HPL
 rintro e w4 ⟨rfl,hs4,on4⟩
 obtain ⟨tl,xl,hvl⟩:=(ps.getD 0 dpc).form
 have HG4:Hid (HpS w4 B H g cap (rs.take n)∧Only (fun k=>k=g∨k=H) w1 w4∧(ps.getD 0 dpc).vl=.iface tl xl):=⟨hs4,HF.out.2.2.2.trans (on4.mono (fun _ _ h=>.inr h)),hvl⟩
 rw [hvl]
 clear hs4 on4 hvl
 go_wp2
 go_ret
 exact ⟨by rw [HG4.out.2.2];rfl,_,HF.out.1,HF.out.2.1,HG4.out.1,HF.out.2.2.1,HG4.out.2.1⟩
end Go.Proofs.YtfeokafkhnbdiaaGreatDoor
