/-
  Lengths read from bits, as numbers: what the model reads and writes again is what the program reads.
-/
import Derived.Test.YtaibkchbkedjnaaGreatDoorElC
import Derived.LaidEql
import Derived.Stop.Asserts
import Derived.RowKitTokens
import Derived.Test.YtaibkchbkedjnaaGreatDoorPut1
import Derived.Test.YtaibkchbkedjnaaGreatDoorPut4
import Derived.Test.YtaibkchbkedjnaaGreatDoorIBase
namespace Go.Proofs.YtaibkchbkedjnaaGreatDoor
open Go.RowKit Go.Extern.Stop Go.Stop Go.Extern
set_option linter.unusedVariables false

theorem isTypeOf (v:Value) (w:World):(Extern.ReflectliteType.typeOf #[.iface 326 v]).run Tryz.prog w=.ok (.iface 223 (.agg #[.pointer (some ⟨29,326,none⟩)])) w:=by kernel_rfl
noncomputable def cmpX:Array Value→Sem Value:=(find Tryz.f275).getD (fun _=>pure .nilIface)
theorem isComparable (w:World):(cmpX #[.agg #[.pointer (some ⟨29,326,none⟩)]]).run Tryz.prog w=.ok (.bool true) w:=by kernel_rfl
theorem isComp :(Tryz.prog.info? 326).map (·.comparable)=some true:=by kernel_rfl
theorem isSize :(Tryz.prog.info? 351).map (·.size)=some 1:=by kernel_rfl
theorem isMethod (v : Value) (w : World) : (Go.method 463 223 v "Comparable").run Tryz.prog w = .ok (275, v) w := by kernel_rfl

set_option maxRecDepth 100000 in
set_option maxHeartbeats 1600000 in
/-- errors.Is(x, x). -/
theorem is_same (a:Addr) (w:World) :
  Calls Tryz.prog 98 #[.iface 326 (.pointer (some a)),.iface 326 (.pointer (some a))] w fun e w'=>e=.returned (.bool true)∧w'=w:=by
 obtain ⟨i,hi,hcmp⟩:=Option.map_eq_some_iff.1 isComp
 obtain ⟨j,hj,hjs⟩:=Option.map_eq_some_iff.1 isSize
 have hT:=@run_callFunc_extern Tryz.prog 141 _ Extern.ReflectliteType.typeOf Tryz.func141 (by kernel_rfl) (by kernel_rfl) (by kernel_rfl) (by kernel_rfl)
 have hC:=@run_callFunc_extern Tryz.prog 275 _ cmpX Tryz.func275 (by kernel_rfl) (by kernel_rfl) (by kernel_rfl) (by kernel_rfl)
 have tT:=isTypeOf
 have cT:=isComparable
 have mR:=isMethod
 have heq:=run_eql_iface_ptr_same (P:=Tryz.prog) w a Tryz.underlying82 Tryz.underlying326 hi hcmp hj
 go_enter Tryz.func98,Tryz.ntmps98
 go_wp2
 refine wp_loop_rounds 1 ?_
 rw [rounds_succ]
 go_wp2
 go_ret
 exact ⟨rfl,rfl⟩

end Go.Proofs.YtaibkchbkedjnaaGreatDoor
namespace Go.Proofs.YtaibkchbkedjnaaGreatDoor
open Go.RowKit
set_option linter.unusedVariables false

set_option maxHeartbeats 1600000 in
/-- What put answers where no room is left: just the sentinel. -/
theorem wput_full (R:Nat) (v:Value) (n:Nat) (x width room:Int) (X:Value) (w:World) (hR:w.heap[R]?=some (.cells #[v,.int .i64 n,.int .i64 room] 309 (0,0))) (hn:n≤4104) (hr0:0≤room) (hroom:room≤5000)
  (g1:w.cell? ⟨28,0,none⟩=some X) (k1:0≤width) (k2:width≤30) (k3:0≤x) (k4':x<2 ^ width.toNat) (k5:room - n<width) :
  Calls Tryz.prog 243 #[.pointer (some ⟨R,0,none⟩),.int .i64 x,.int .i64 width] w fun e w'=>e=.returned X∧∃ m,w'=w.drewN m:=by
 have k4:x<wrap64 (2 ^ width.toNat):=by rw [wrap_pow _ (by omega)];exact k4'
 have c1:w.cell? ⟨R,1,none⟩=some (.int .i64 n):=cellR (j:=1) hR rfl
 have c2:w.cell? ⟨R,2,none⟩=some (.int .i64 room):=cellR (j:=2) hR rfl
 clear hR k4'
 have hd:Hid (decide (0≤width∧width≤30)=true):=by simp [Hid];omega
 go_enter Tryz.func243,Tryz.ntmps243
 go_wp2_with fail
 refine (widthOk_any width _).mono ?_
 rintro e w1 ⟨rfl,rfl⟩
 rw [hd.out]
 go_wp2
 go_quiet (fail)
 go_wp2
 go_ret
 exact ⟨rfl,_,rfl⟩

theorem OwnV.only {S:Nat→Prop} {w w':World} {B:Nat} {v:Value} {zs:List Int} (h:OwnV w B v zs) (ho:Only S w w') (hs:∀ k,v.ownBlock=some k→¬S k):OwnV w' B v zs:=by
 rcases h.1.2 with ⟨h1,h2⟩ | ⟨g,cap,cur,rfl,r⟩
 ·exact ⟨⟨h.1.1,.inl ⟨h1,h2⟩⟩,h.2⟩
 ·exact Own.only (g:=g) (cap:=cap) h ho (hs g rfl)

theorem OwnV.ne {w:World} {B k R:Nat} {v:Value} {zs:List Int} {cur:Array Value} {T:TypeId} (h:OwnV w B v zs) (hk:v.ownBlock=some k) (hR:w.heap[R]?=some (.cells cur T (0,0))) (hT:T≠5):k≠R:=by
 rcases h.1.2 with ⟨rfl,h2⟩ | ⟨g,cap,cur',rfl,hg,hh,r⟩
 ·simp [Value.ownBlock] at hk
 ·simp [Value.ownBlock] at hk
  subst hk
  exact Own.ne (g:=g) (cap:=cap) h hR hT

theorem Byt.belowB {w w':World} {a:Option Addr} {zs:List Int} {B:Nat} (h:Byt w a zs) (hb:Below B w w') (hB:0<zs.length→∀ x,a=some x→x.block<B):Byt w' a zs:=by
 refine ⟨h.1,fun hp=>?_⟩
 obtain ⟨g,off,rfl,hl,hc⟩:=h.2 hp
 have hg:=hB hp _ rfl
 exact ⟨g,off,rfl,Nat.lt_of_lt_of_le hl hb.size,fun i hi=>(hb.cell (p:=⟨g,off+i,none⟩) hg).trans (hc i hi)⟩

def atOf (w:World) (Q:Nat):Nat:=match w.cell? ⟨Q,2,none⟩ with | some (.int _ p)=>p.toNat | _=>0

structure Poured (w wr:World) (R B Q:Nat) (b:Option Addr) (L cb n V m U p0 j:Nat) (u:Value):Prop where
 hR:wr.heap[R]?=some (.cells #[u,.int .i64 ((n+j:Nat):Int),.int .i64 4096] 309 (0,0))
 hv:OwnV wr B u (enc (n+j) (V+(U % 2 ^ j) * 2 ^ n))
 hQ:wr.heap[Q]?=some (.cells #[.slice b L cb,.int .i64 m,.int .i64 ((p0+j:Nat):Int)] 261 (0,0))
 bel:Below B w wr

theorem Poured.drewN {w wr:World} {R B Q:Nat} {b:Option Addr} {L cb n V m U p0 j:Nat} {u:Value} (h:Poured w wr R B Q b L cb n V m U p0 j u) (k:Nat):Poured w (wr.drewN k) R B Q b L cb n V m U p0 j u:=
 ⟨h.hR,h.hv,h.hQ,below_drewN h.bel k⟩

theorem Poured.ne {w wr:World} {R B Q:Nat} {b:Option Addr} {L cb n V m U p0 j:Nat} {u:Value} (h:Poured w wr R B Q b L cb n V m U p0 j u):Q≠R:=by
 rintro rfl
 have:=h.hR.symm.trans h.hQ
 simp at this

set_option maxRecDepth 100000 in
set_option maxHeartbeats 800000 in
/-- errors.Is(nil, x). -/
theorem is_nil (T:TypeId) (x:Value) (w:World) :
  Calls Tryz.prog 98 #[.nilIface,.iface T x] w fun e w'=>e=.returned (.bool false)∧w'=w:=by
 have hl:=run_eql_iface_nil_left (P:=Tryz.prog) (w:=w) T x Tryz.underlying82
 go_enter Tryz.func98,Tryz.ntmps98
 go_wp2
 go_ret
 exact ⟨rfl,rfl⟩

theorem shift_part (U p0 j s:Nat):U / 2 ^ (p0+j) % 2 ^ s=U / 2 ^ p0 / 2 ^ j % 2 ^ s:=by
 rw [Nat.pow_add,Nat.div_div_eq_div_mul]

set_option maxRecDepth 100000 in
set_option maxHeartbeats 2000000 in
/-- The reader is at p0, its last bit ahead of m; its bytes may hold more. -/
theorem pour_any (R B Q:Nat) (v:Value) (b:Option Addr) (cb:Nat) (ys:List Int) (n V m M U0 p0:Nat) (T1:TypeId) (pe:Addr) (x1:Value) (w:World)
  (hR:w.heap[R]?=some (.cells #[v,.int .i64 n,.int .i64 4096] 309 (0,0))) (hv:OwnV w B v (enc n V)) (hV:V<2 ^ n) (hB:B≤w.heap.size)
  (hQ:w.heap[Q]?=some (.cells #[.slice b ys.length cb,.int .i64 m,.int .i64 p0] 261 (0,0))) (hb:Byt w b ys) (hy:ys=enc M U0) (hn:n≤4096) (hm:m≤M) (hM:M≤4096) (hpm0:p0≤m)
  (hBR:B≤R) (hBQ:B≤Q) (hG:18<B∧28<B) (hbB:0<ys.length→∀ x,b=some x→x.block<B)
  (g0:w.cell? ⟨18,0,none⟩=some (.iface 326 (.pointer (some pe)))) (g1:w.cell? ⟨28,0,none⟩=some (.iface T1 x1)) :
  Calls Tryz.prog 238 #[.pointer (some ⟨R,0,none⟩),.pointer (some ⟨Q,0,none⟩)] w fun e w'=>
   Below B w w'∧(n+(m - p0)≤4096→e=.returned .nilIface∧∃ v',w'.heap[R]?=some (.cells #[v',.int .i64 ((n+(m - p0):Nat):Int),.int .i64 4096] 309 (0,0))∧OwnV w' B v' (enc (n+(m - p0)) (V+(U0 / 2 ^ p0 % 2 ^ (m - p0)) * 2 ^ n))) ∧
    (4096<n+(m - p0)→e=.returned (.iface T1 x1)):=by
 obtain ⟨U,hUe⟩:∃ U,U=U0 / 2 ^ p0:=⟨_,rfl⟩
 have HU:Hid (U=U0 / 2 ^ p0):=hUe
 obtain ⟨d,rfl⟩:∃ d,m=p0+d:=⟨m - p0,by omega⟩
 rw [Nat.add_sub_cancel_left,←hUe]
 clear hUe
 have HR:Hid (Poured w w R B Q b ys.length cb n V (p0+d) U p0 0 v):=⟨hR,by simpa [Nat.mod_one] using hv,hQ,Below.refl _ _⟩
 have HY:Hid (ys=enc M U0):=hy
 have HVV:Hid (V<2 ^ n):=hV
 clear hR hv hQ hy hV
 go_enter Tryz.func238,Tryz.ntmps238
 go_wp2
 go_loopw [] (fun wr=>∃ (j:Nat) (u:Value),j≤d∧n+j≤4096∧Poured w wr R B Q b ys.length cb n V (p0+d) U p0 j u) (fun wr=>p0+d - atOf wr Q)
 case atStart=>exact ⟨0,v,Nat.zero_le _,by omega,HR.out⟩
 case round=>
  obtain ⟨j,u,hpm,hnp,hP⟩:=hrel
  have e0:=keep hP.bel hG.1 g0
  have c1:wr.cell? ⟨Q,1,none⟩=some (.int .i64 ((p0+d:Nat):Int)):=cellR (j:=1) hP.hQ rfl
  have c2:wr.cell? ⟨Q,2,none⟩=some (.int .i64 ((p0+j:Nat):Int)):=cellR (j:=2) hP.hQ rfl
  have c0:wr.cell? ⟨Q,0,none⟩=some (.slice b ys.length cb):=cellR (j:=0) hP.hQ rfl
  have hat:atOf wr Q=p0+j:=by simp [atOf,c2];omega
  have HE0:Hid (wr.cell? ⟨18,0,none⟩=some (.iface 326 (.pointer (some pe)))):=e0
  have HC:Hid _:=(⟨c0,c1,c2⟩:_∧_∧_)
  have HAT:Hid (atOf wr Q=p0+j):=hat
  clear e0 c0 c1 c2 hat
  by_cases hlt:j<d
  ·have HP:Hid (Poured w wr R B Q b ys.length cb n V (p0+d) U p0 j u):=hP
   have HF:Hid (wr.frozen? ⟨Q,2,none⟩=false):=frozenR hP.hQ
   clear hP
   go_wp2_with fail
   refine (some_yes Q b cb ys (p0+d) M U0 (p0+j) wr (by omega) (by omega) hm (hb.belowB HP.out.bel hbB) HY.out (by omega) HC.out.1 HC.out.2.1 HC.out.2.2 HF.out).mono ?_
   rintro e w1 ⟨rfl,k1,rfl⟩
   obtain ⟨s,hs⟩:∃ s,s=min (d - j) 30:=⟨_,rfl⟩
   rw [show min (p0+d - (p0+j)) 30=s from by omega,shift_part,←HU.out]
   have hX:U / 2 ^ j % 2 ^ s<2 ^ s:=Nat.mod_lt _ (Nat.pow_pos (by omega))
   have HPP:Hid (V+(U % 2 ^ j) * 2 ^ n+(U / 2 ^ j % 2 ^ s) * 2 ^ (n+j)=V+(U % 2 ^ (j+s)) * 2 ^ n):=put_part n V U j s
   have HVP:Hid (V+(U % 2 ^ j) * 2 ^ n<2 ^ (n+j)):=put_lt n V j (U % 2 ^ j) HVV.out (Nat.mod_lt _ (Nat.pow_pos (by omega)))
   generalize U / 2 ^ j % 2 ^ s=X at *
   have HXI:Hid ((X:Int)<2 ^ ((s:Int)).toNat):=by
    have e:((2:Int) ^ s)=((2 ^ s:Nat):Int):=by simp
    rw [Int.toNat_natCast,e]
    show (X:Int)<_
    exact Int.ofNat_lt.2 hX
   have hP1:=HP.out.drewN k1
   have hne:=hP1.ne
   have hszw:=hP1.bel.size
   have hs1:s≤30:=by omega
   have hs2:j+s≤d:=by omega
   have hs3:0<s:=by omega
   clear hs hX
   rw [show p0+j+s=p0+(j+s) from by omega]
   have hO1:Only (fun k=>k=Q) (wr.drewN k1) ((wr.drewN k1).setCell ⟨Q,2,none⟩ (.int .i64 ((p0+(j+s):Nat):Int))):=Only.setCell (Only.refl (fun k=>k=Q) (wr.drewN k1)) (p:=⟨Q,2,none⟩) (.inl rfl) _
   have hR1:((wr.drewN k1).setCell ⟨Q,2,none⟩ (.int .i64 ((p0+(j+s):Nat):Int))).heap[R]?=some (.cells #[u,.int .i64 ((n+j:Nat):Int),.int .i64 4096] 309 (0,0)):=by
    rw [Below.heap_setCell _ _ _ _ (by simpa using hne.symm)];exact hP1.hR
   have hQ1:((wr.drewN k1).setCell ⟨Q,2,none⟩ (.int .i64 ((p0+(j+s):Nat):Int))).heap[Q]?=some (.cells #[.slice b ys.length cb,.int .i64 ((p0+d:Nat):Int),.int .i64 ((p0+(j+s):Nat):Int)] 261 (0,0)):=by
    rw [heap_setCell_same _ Q 2 _ _ _ hP1.hQ];simp
   have hv1:OwnV ((wr.drewN k1).setCell ⟨Q,2,none⟩ (.int .i64 ((p0+(j+s):Nat):Int))) B u (enc (n+j) (V+(U % 2 ^ j) * 2 ^ n)):=OwnV.only hP1.hv hO1 (fun k hk=>OwnV.ne hP1.hv hk hP1.hQ (by decide))
   have hb1:Below B w ((wr.drewN k1).setCell ⟨Q,2,none⟩ (.int .i64 ((p0+(j+s):Nat):Int))):=hP1.bel.setCell (by simpa using hBQ) _
   have hz1:B≤((wr.drewN k1).setCell ⟨Q,2,none⟩ (.int .i64 ((p0+(j+s):Nat):Int))).heap.size:=Nat.le_trans hB hb1.size
   clear hP1 hO1 HP HF HC HE0
   generalize (wr.drewN k1).setCell ⟨Q,2,none⟩ (.int .i64 ((p0+(j+s):Nat):Int))=w1 at *
   have H1:Hid _:=(⟨hR1,hQ1,hv1,hb1⟩:_∧_∧_∧_)
   have e0:=keep H1.out.2.2.2 hG.1 g0
   clear hR1 hQ1 hv1 hb1
   go_wp2_with fail
   refine (is_nil _ _ _).mono ?_
   rintro e w1' ⟨rfl,rfl⟩
   clear e0
   by_cases hfit:n+j+s≤4096
   ·go_wp2_with fail
    refine (wput_yes R B u (n+j) (V+(U % 2 ^ j) * 2 ^ n) (X:Int) (s:Int) 4096 _ H1.out.1 H1.out.2.2.1 HVP.out hz1 (by omega) (by omega) (by omega) HXI.out (by omega) (by omega) (by omega)).mono ?_
    rintro e w2 ⟨rfl,v',hR2,hv2,ho2,hrow2⟩
    simp only [Int.toNat_natCast] at hR2 hv2
    rw [HPP.out] at hv2
    have hQl:Q<w1'.heap.size:=(Array.getElem?_eq_some_iff.1 H1.out.2.1).1
    have hQ2:=(ho2.block Q hQl (by
     rintro (h | h)
     ·exact hne h
     ·exact OwnV.ne H1.out.2.2.1 h H1.out.2.1 (by decide) rfl)).trans H1.out.2.1
    have hb2:Below B w w2:=H1.out.2.2.2.trans (ho2.below hz1 (by
     rintro k (h | h)
     ·omega
     ·exact (H1.out.2.2.1.1.lt _ h).1))
    have HF:Hid (Poured w w2 R B Q b ys.length cb n V (p0+d) U p0 (j+s) v'):=⟨by rw [hR2,Nat.add_assoc],by rw [←Nat.add_assoc];exact hv2,hQ2,hb2⟩
    have hat2:Hid (atOf w2 Q=p0+(j+s)):=by unfold Hid;simp [atOf,cellR (j:=2) hQ2 rfl];omega
    clear hR2 hv2 hQ2 hb2 ho2 hrow2 H1
    go_wp2
    go_roundw
    case rel=>exact ⟨j+s,v',by omega,by omega,HF.out⟩
    case measure=>rw [HAT.out,hat2.out];omega
   ·have e1:=keep H1.out.2.2.2 hG.2 g1
    go_wp2_with fail
    refine (wput_full R u (n+j) (X:Int) (s:Int) 4096 (.iface T1 x1) _ H1.out.1 (by omega) (by omega) (by omega) e1 (by omega) (by omega) (by omega) HXI.out (by omega)).mono ?_
    rintro e w2 ⟨rfl,k2,rfl⟩
    have HB2:Hid (Below B w (w1'.drewN k2)):=below_drewN H1.out.2.2.2 k2
    clear H1 e1
    generalize w1'.drewN k2=w2 at *
    go_wp2
    go_ret
    exact ⟨HB2.out,fun h=>by omega,fun _=>rfl⟩
  ·have hpe:j=d:=by omega
   subst hpe
   have HP:Hid (Poured w wr R B Q b ys.length cb n V (p0+j) U p0 j u):=hP
   clear hP
   go_wp2_with fail
   refine (some_no Q (p0+j) (p0+j) (.iface 326 (.pointer (some pe))) wr (by omega) rfl HC.out.2.1 HC.out.2.2 HE0.out).mono ?_
   rintro e w1 ⟨rfl,k1,rfl⟩
   have HP1:Hid (Poured w (wr.drewN k1) R B Q b ys.length cb n V (p0+j) U p0 j u):=HP.out.drewN k1
   clear HP HC HE0
   generalize wr.drewN k1=wf at *
   have e0:=keep HP1.out.bel hG.1 g0
   go_wp2_with fail
   refine (is_same pe _).mono ?_
   rintro e wf' ⟨rfl,rfl⟩
   go_wp2
   go_ret
   exact ⟨HP1.out.bel,fun _=>⟨rfl,u,HP1.out.hR,HP1.out.hv⟩,fun h=>by omega⟩
def nou :List Int→Nat
 | []=>0
 | z :: t=>if z=0 then nou t+1 else 0
theorem nou_le (l:List Int):nou l≤l.length:=by
 induction l with
 | nil=>simp [nou]
 | cons z t ih=>simp only [nou,List.length_cons];split <;> omega
theorem nou_zero (l:List Int) (k:Nat) (h:k<nou l):l.getD k 0=0:=by
 induction l generalizing k with
 | nil=>simp [nou] at h
 | cons z t ih=>
  simp only [nou] at h
  split at h
  ·rename_i hz
   cases k with
   | zero=>simpa using hz
   | succ k=>simpa using ih k (by omega)
  ·omega
theorem nou_stop (l:List Int) (h:nou l<l.length):l.getD (nou l) 0≠0:=by
 induction l with
 | nil=>simp [nou] at h
 | cons z t ih=>
  by_cases hz:z=0
  ·have e:nou (z :: t)=nou t+1:=by simp [nou,hz]
   rw [e] at h ⊢
   simpa using ih (by simpa using h)
  ·have e:nou (z :: t)=0:=by simp [nou,hz]
   rw [e]
   simpa using hz
def run (zs:List Int) (i:Nat):Nat:=min (nou (zs.drop (i+1))) 7
def lp (zs:List Int):Nat→Nat→Nat→Nat→Nat × Nat
 | 0,_,n,V=>(n,V)
 | f+1,i,n,V=>if i<zs.length then (if zs.getD i 0=0 then lp zs f (i+1+run zs i) (n+7) (V+run zs i * 2 ^ (n+4)) else lp zs f (i+1) (n+4) (V+(zs.getD i 0).toNat * 2 ^ n)) else (n,V)
def lpF (zs:List Int):Nat × Nat:=lp zs zs.length 0 0 0
theorem lp_end (zs:List Int) (f i n V:Nat) (h:¬i<zs.length):lp zs f i n V=(n,V):=by
 cases f with
 | zero=>rfl
 | succ f=>simp [lp,h]
theorem lp_zero (zs:List Int) (f i n V:Nat) (h:i<zs.length) (hz:zs.getD i 0=0):lp zs (f+1) i n V=lp zs f (i+1+run zs i) (n+7) (V+run zs i * 2 ^ (n+4)):=by
 simp only [lp];rw [if_pos h,if_pos hz]
theorem lp_pos (zs:List Int) (f i n V:Nat) (h:i<zs.length) (hz:¬zs.getD i 0=0):lp zs (f+1) i n V=lp zs f (i+1) (n+4) (V+(zs.getD i 0).toNat * 2 ^ n):=by
 simp only [lp];rw [if_pos h,if_neg hz]
theorem lp_le (zs:List Int) (f i n V:Nat):(lp zs f i n V).1≤n+7 * f:=by
 induction f generalizing i n V with
 | zero=>simp [lp]
 | succ f ih=>
  simp only [lp]
  split
  ·split
   ·have:=ih (i+1+run zs i) (n+7) (V+run zs i * 2 ^ (n+4));omega
   ·have:=ih (i+1) (n+4) (V+(zs.getD i 0).toNat * 2 ^ n);omega
  ·simp
theorem run_le (zs:List Int) (i:Nat) (h:i<zs.length):run zs i≤7∧i+1+run zs i≤zs.length:=by
 have:=nou_le (zs.drop (i+1))
 rw [List.length_drop] at this
 unfold run
 omega
theorem drop_getD (zs:List Int) (i j:Nat):(zs.drop i).getD j 0=zs.getD (i+j) 0:=by simp [List.getD_eq_getElem?_getD]
theorem run_in (zs:List Int) (i j:Nat) (hj:j<run zs i):j<7∧i+j+1<zs.length∧zs.getD (i+j+1) 0=0:=by
 have h1:j<nou (zs.drop (i+1)):=by unfold run at hj;omega
 have h2:=nou_le (zs.drop (i+1))
 rw [List.length_drop] at h2
 have h3:=nou_zero _ j h1
 rw [drop_getD] at h3
 refine ⟨by unfold run at hj;omega,by omega,?_⟩
 rw [←h3];congr 1;omega
theorem run_out (zs:List Int) (i:Nat) (hi:i<zs.length) (h7:run zs i<7) (hl:i+run zs i+1<zs.length):zs.getD (i+run zs i+1) 0≠0:=by
 have h1:run zs i=nou (zs.drop (i+1)):=by unfold run at *;omega
 have h2:=nou_stop (zs.drop (i+1)) (by rw [List.length_drop,←h1];omega)
 rw [←h1,drop_getD] at h2
 intro h
 apply h2
 rw [←h];congr 1;omega
def bt (V p k:Nat):Nat:=V / 2 ^ p % 2 ^ k
theorem bt_lt (V p k:Nat):bt V p k<2 ^ k:=Nat.mod_lt _ (Nat.two_pow_pos k)
theorem bt_split (V p a b:Nat):bt V p (a+b)=bt V p a+2 ^ a * bt V (p+a) b:=by
 unfold bt
 rw [Nat.pow_add,Nat.mod_mul,Nat.div_div_eq_div_mul,←Nat.pow_add]
theorem bt_zero (V p:Nat):bt V p 0=0:=by unfold bt;simp [Nat.mod_one]
theorem lp_shift (zs:List Int) (f i n V:Nat):lp zs f i n V=(n+(lp zs f i 0 0).1,V+(lp zs f i 0 0).2 * 2 ^ n):=by
 induction f generalizing i n V with
 | zero=>simp [lp]
 | succ f ih=>
  simp only [lp]
  by_cases h:i<zs.length
  ·rw [if_pos h,if_pos h]
   by_cases hz:zs.getD i 0=0
   ·rw [if_pos hz,if_pos hz,ih (i+1+run zs i) (n+7),ih (i+1+run zs i) (0+7)]
    generalize lp zs f (i+1+run zs i) 0 0=u
    generalize run zs i=r
    simp only [Prod.mk.injEq]
    refine ⟨by omega,?_⟩
    rw [Nat.pow_add,Nat.pow_add]
    generalize 2 ^ n=P
    grind
   ·rw [if_neg hz,if_neg hz,ih (i+1) (n+4),ih (i+1) (0+4)]
    generalize lp zs f (i+1) 0 0=u
    generalize (zs.getD i 0).toNat=r
    simp only [Prod.mk.injEq]
    refine ⟨by omega,?_⟩
    rw [Nat.pow_add]
    generalize 2 ^ n=P
    grind
  ·rw [if_neg h,if_neg h]
   simp
def gq (n V s:Nat):Nat→Nat→List Int→Option (List Int × Nat)
 | 0,p,out=>some (out,p)
 | f+1,p,out=>if out.length<s then (if p+4≤n then (if bt V p 4=0 then (if p+7≤n then gq n V s f (p+7) (out++[0]++List.replicate (bt V (p+4) 3) 0) else none) else gq n V s f (p+4) (out++[((bt V p 4:Nat):Int)])) else none) else some (out,p)
def gi (n V s:Nat):Nat→Nat→List Int→Bool→Option (List Int × Nat)
 | 0,p,out,e=>some (out,p)
 | f+1,p,out,e=>if out.length<s then (if p+4≤n then (if bt V p 4=0 then (if p+7≤n then (if e=true∨s<out.length+1+bt V (p+4) 3 then none else gi n V s f (p+7) (out++[0]++List.replicate (bt V (p+4) 3) 0) (decide (bt V (p+4) 3<7))) else none) else gi n V s f (p+4) (out++[((bt V p 4:Nat):Int)]) false) else none) else some (out,p)
theorem gq_end {n V s f q:Nat} {out:List Int} (h:¬out.length<s):gq n V s f q out=some (out,q):=by
 cases f with
 | zero=>rfl
 | succ f=>simp only [gq];rw [if_neg h]
theorem gq_4 {n V s f q:Nat} {out:List Int} (h:out.length<s) (h4:¬q+4≤n):gq n V s (f+1) q out=none:=by simp only [gq];rw [if_pos h,if_neg h4]
theorem gq_pos {n V s f q:Nat} {out:List Int} (h:out.length<s) (h4:q+4≤n) (hx:¬bt V q 4=0):gq n V s (f+1) q out=gq n V s f (q+4) (out++[((bt V q 4:Nat):Int)]):=by simp only [gq];rw [if_pos h,if_pos h4,if_neg hx]
theorem gq_7 {n V s f q:Nat} {out:List Int} (h:out.length<s) (h4:q+4≤n) (hx:bt V q 4=0) (h7:¬q+7≤n):gq n V s (f+1) q out=none:=by simp only [gq];rw [if_pos h,if_pos h4,if_pos hx,if_neg h7]
theorem gq_zero {n V s f q:Nat} {out:List Int} (h:out.length<s) (hx:bt V q 4=0) (h7:q+7≤n):gq n V s (f+1) q out=gq n V s f (q+7) (out++[0]++List.replicate (bt V (q+4) 3) 0):=by simp only [gq];rw [if_pos h,if_pos (by omega),if_pos hx,if_pos h7]
theorem gi_end {n V s f q:Nat} {out:List Int} {e:Bool} (h:¬out.length<s):gi n V s f q out e=some (out,q):=by
 cases f with
 | zero=>rfl
 | succ f=>simp only [gi];rw [if_neg h]
theorem gi_4 {n V s f q:Nat} {out:List Int} {e:Bool} (h:out.length<s) (h4:¬q+4≤n):gi n V s (f+1) q out e=none:=by simp only [gi];rw [if_pos h,if_neg h4]
theorem gi_pos {n V s f q:Nat} {out:List Int} {e:Bool} (h:out.length<s) (h4:q+4≤n) (hx:¬bt V q 4=0):gi n V s (f+1) q out e=gi n V s f (q+4) (out++[((bt V q 4:Nat):Int)]) false:=by simp only [gi];rw [if_pos h,if_pos h4,if_neg hx]
theorem gi_7 {n V s f q:Nat} {out:List Int} {e:Bool} (h:out.length<s) (h4:q+4≤n) (hx:bt V q 4=0) (h7:¬q+7≤n):gi n V s (f+1) q out e=none:=by simp only [gi];rw [if_pos h,if_pos h4,if_pos hx,if_neg h7]
theorem gi_bad {n V s f q:Nat} {out:List Int} {e:Bool} (h:out.length<s) (hx:bt V q 4=0) (h7:q+7≤n) (hb:e=true∨s<out.length+1+bt V (q+4) 3):gi n V s (f+1) q out e=none:=by simp only [gi];rw [if_pos h,if_pos (by omega),if_pos hx,if_pos h7,if_pos hb]
theorem gi_zero {n V s f q:Nat} {out:List Int} {e:Bool} (h:out.length<s) (hx:bt V q 4=0) (h7:q+7≤n) (hb:¬(e=true∨s<out.length+1+bt V (q+4) 3)):gi n V s (f+1) q out e=gi n V s f (q+7) (out++[0]++List.replicate (bt V (q+4) 3) 0) (decide (bt V (q+4) 3<7)):=by simp only [gi];rw [if_pos h,if_pos (by omega),if_pos hx,if_pos h7,if_neg hb]
def lenS :Value→Nat
 | .slice _ n _=>n
 | _=>0
theorem nou_rep (k:Nat) (t:List Int):nou (List.replicate k 0++t)=k+nou t:=by
 induction k with
 | zero=>simp
 | succ k ih=>rw [List.replicate_succ,List.cons_append];simp only [nou,if_true];rw [ih];omega
theorem run_app (out rest:List Int) (k:Nat):run (out++[0]++List.replicate k 0++rest) out.length=min (k+nou rest) 7:=by
 unfold run
 have e:(out++[0]++List.replicate k 0++rest).drop (out.length+1)=List.replicate k 0++rest:=by
  have h:out.length+1=(out++[(0:Int)]).length:=by simp
  rw [List.append_assoc,h,List.drop_left]
 rw [e,nou_rep]
theorem nou_head {t:List Int} (h:0<t.length→t.getD 0 0≠0):nou t=0:=by
 cases t with
 | nil=>rfl
 | cons z t=>simp only [nou];rw [if_neg (by simpa using h (by simp))]
theorem getD_app0 (out rest:List Int):(out++rest).getD out.length 0=rest.getD 0 0:=by
 rw [List.getD_eq_getElem?_getD,List.getElem?_append_right (Nat.le_refl _),Nat.sub_self,List.getD_eq_getElem?_getD]

theorem gi_yes (n V s:Nat) (f:Nat):∀ (p:Nat) (out:List Int) (e:Bool) (res:List Int) (q:Nat),s≤f+out.length→out.length≤s→gi n V s f p out e=some (res,q) →
  (∃ rest,res=out++rest)∧res.length=s∧p≤q∧(e=true→out.length<s→res.getD out.length 0≠0)∧(∀ f' N U,s≤f'+out.length→lp res f' out.length N U=(N+(q - p),U+bt V p (q - p) * 2 ^ N))∧gq n V s f p out=some (res,q):=by
 induction f with
 | zero=>
  intro p out e res q hf ho h
  simp only [gi,Option.some.injEq,Prod.mk.injEq] at h
  obtain ⟨rfl,rfl⟩:=h
  refine ⟨⟨[],by simp⟩,by omega,Nat.le_refl _,fun _ h=>absurd h (by omega),fun f' N U _=>?_,rfl⟩
  rw [lp_end _ _ _ _ _ (by omega),Nat.sub_self,bt_zero]
  simp
 | succ f ih=>
  intro p out e res q hf ho h
  simp only [gi] at h
  by_cases h1:out.length<s
  ·rw [if_pos h1] at h
   by_cases h2:p+4≤n
   ·rw [if_pos h2] at h
    by_cases h3:bt V p 4=0
    ·rw [if_pos h3] at h
     by_cases h4:p+7≤n
     ·rw [if_pos h4] at h
      have hk:=bt_lt V (p+4) 3
      generalize hke:bt V (p+4) 3=k at *
      by_cases h5:e=true∨s<out.length+1+k
      ·rw [if_pos h5] at h
       cases h
      ·rw [if_neg h5] at h
       have hl:(out++[0]++List.replicate k 0).length=out.length+1+k:=by simp;omega
       obtain ⟨⟨rest,hr⟩,r1,r2,r3,r4,r5⟩:=ih (p+7) (out++[0]++List.replicate k 0) (decide (k<7)) res q (by omega) (by omega) h
       have hrun:run res out.length=k:=by
        rw [hr,run_app]
        by_cases h7:k<7
        ·rw [nou_head (t:=rest) (fun hp=>?_)]
         ·omega
         ·have h8:=r3 (by simpa using h7) (by rw [hr,List.length_append] at r1;omega)
          rw [hr,getD_app0] at h8
          exact h8
        ·omega
       have hz:res.getD out.length 0=0:=by
        rw [hr,List.append_assoc,List.append_assoc,getD_app0]
        rfl
       refine ⟨⟨[0]++List.replicate k 0++rest,by rw [hr];simp⟩,r1,by omega,fun he=>absurd (Or.inl he) h5,fun f' N U hf'=>?_,?_⟩
       ·obtain ⟨g,rfl⟩:∃ g,f'=g+1:=⟨f' - 1,by omega⟩
        rw [lp_zero _ _ _ _ _ (by omega) hz,hrun]
        rw [hl] at r4
        rw [r4 g (N+7) _ (by omega),show q - p=4+(3+(q - (p+7))) by omega,bt_split,h3,bt_split,hke,show p+4+3=p+7 from rfl]
        generalize bt V (p+7) (q - (p+7))=u
        simp only [Prod.mk.injEq]
        refine ⟨by omega,?_⟩
        rw [Nat.pow_add,Nat.pow_add]
        generalize 2 ^ N=P
        grind
       ·simp only [gq]
        rw [if_pos h1,if_pos h2,if_pos h3,if_pos h4,hke]
        exact r5
     ·rw [if_neg h4] at h
      cases h
    ·rw [if_neg h3] at h
     have hl:(out++[((bt V p 4:Nat):Int)]).length=out.length+1:=by simp
     obtain ⟨⟨rest,hr⟩,r1,r2,r3,r4,r5⟩:=ih (p+4) (out++[((bt V p 4:Nat):Int)]) false res q (by omega) (by omega) h
     have hz:res.getD out.length 0=((bt V p 4:Nat):Int):=by
      rw [hr,List.append_assoc,getD_app0]
      rfl
     refine ⟨⟨((bt V p 4:Nat):Int) :: rest,by rw [hr];simp⟩,r1,by omega,fun _ _=>by rw [hz];omega,fun f' N U hf'=>?_,?_⟩
     ·obtain ⟨g,rfl⟩:∃ g,f'=g+1:=⟨f' - 1,by omega⟩
      rw [lp_pos _ _ _ _ _ (by omega) (by rw [hz];omega),hz]
      rw [hl] at r4
      rw [r4 g (N+4) _ (by omega),show q - p=4+(q - (p+4)) by omega,bt_split,Int.toNat_natCast]
      generalize bt V (p+4) (q - (p+4))=u
      generalize bt V p 4=v
      simp only [Prod.mk.injEq]
      refine ⟨by omega,?_⟩
      rw [Nat.pow_add]
      generalize 2 ^ N=P
      grind
     ·simp only [gq]
      rw [if_pos h1,if_pos h2,if_neg h3]
      exact r5
   ·rw [if_neg h2] at h
    cases h
  ·rw [if_neg h1] at h
   simp only [Option.some.injEq,Prod.mk.injEq] at h
   obtain ⟨rfl,rfl⟩:=h
   refine ⟨⟨[],by simp⟩,by omega,Nat.le_refl _,fun _ h=>absurd h (by omega),fun f' N U _=>?_,?_⟩
   ·rw [lp_end _ _ _ _ _ (by omega),Nat.sub_self,bt_zero]
    simp
   ·simp only [gq]
    rw [if_neg h1]

theorem gq_ext (n V s:Nat) (f:Nat):∀ (p:Nat) (out res:List Int) (q:Nat),gq n V s f p out=some (res,q)→(∃ rest,res=out++rest)∧p≤q∧(p≤n→q≤n):=by
 induction f with
 | zero=>
  intro p out res q h
  simp only [gq,Option.some.injEq,Prod.mk.injEq] at h
  obtain ⟨rfl,rfl⟩:=h
  exact ⟨⟨[],by simp⟩,Nat.le_refl _,id⟩
 | succ f ih=>
  intro p out res q h
  simp only [gq] at h
  split at h
  ·split at h
   ·split at h
    ·split at h
     ·obtain ⟨⟨rest,hr⟩,h2,h3⟩:=ih _ _ _ _ h
      exact ⟨⟨[0]++List.replicate (bt V (p+4) 3) 0++rest,by rw [hr];simp⟩,by omega,fun _=>h3 (by omega)⟩
     ·cases h
    ·obtain ⟨⟨rest,hr⟩,h2,h3⟩:=ih _ _ _ _ h
     exact ⟨⟨((bt V p 4:Nat):Int) :: rest,by rw [hr];simp⟩,by omega,fun _=>h3 (by omega)⟩
   ·cases h
  ·simp only [Option.some.injEq,Prod.mk.injEq] at h
   obtain ⟨rfl,rfl⟩:=h
   exact ⟨⟨[],by simp⟩,Nat.le_refl _,id⟩

theorem gq_yes (n V s:Nat) (f:Nat):∀ (p:Nat) (out:List Int) (e:Bool) (res:List Int) (q f':Nat),s≤f+out.length→s≤f'+out.length→gq n V s f p out=some (res,q)→res.length=s→lp res f' out.length 0 0=(q - p,bt V p (q - p)) →
  (e=true→out.length<s→res.getD out.length 0≠0)→gi n V s f p out e=some (res,q):=by
 induction f with
 | zero=>
  intro p out e res q f' hf hf' h hl hlp he
  simpa [gq,gi] using h
 | succ f ih=>
  intro p out e res q f' hf hf' h hl hlp he
  simp only [gq] at h
  simp only [gi]
  by_cases h1:out.length<s
  ·rw [if_pos h1] at h ⊢
   obtain ⟨g,rfl⟩:∃ g,f'=g+1:=⟨f' - 1,by omega⟩
   by_cases h2:p+4≤n
   ·rw [if_pos h2] at h ⊢
    by_cases h3:bt V p 4=0
    ·rw [if_pos h3] at h ⊢
     by_cases h4:p+7≤n
     ·rw [if_pos h4] at h ⊢
      have hk:=bt_lt V (p+4) 3
      generalize hke:bt V (p+4) 3=k at *
      have hl2:(out++[0]++List.replicate k 0).length=out.length+1+k:=by simp;omega
      obtain ⟨⟨rest,hr⟩,hq,-⟩:=gq_ext n V s f _ _ _ _ h
      have hz:res.getD out.length 0=0:=by
       rw [hr,List.append_assoc,List.append_assoc,getD_app0]
       rfl
      rw [lp_zero _ _ _ _ _ (by omega) hz,lp_shift,show q - p=4+(3+(q - (p+7))) by omega,bt_split,h3,bt_split,hke,show p+4+3=p+7 from rfl] at hlp
      have hrl:=run_le res out.length (by omega)
      have hk2:run res out.length=k∧lp res g (out.length+1+run res out.length) 0 0=(q - (p+7),bt V (p+7) (q - (p+7))):=by
       generalize run res out.length=r at *
       generalize bt V (p+7) (q - (p+7))=u at *
       generalize lp res g (out.length+1+r) 0 0=x at *
       simp only [Prod.mk.injEq] at hlp
       obtain ⟨e1,e2⟩:=hlp
       obtain ⟨x1,x2⟩:=x
       simp only at e1 e2
       exact ⟨by omega,by simp only [Prod.mk.injEq];omega⟩
      obtain ⟨hrk,hlp2⟩:=hk2
      rw [hrk] at hlp2 hrl
      rw [if_neg (by
       rintro (h9 | h9)
       ·exact he h9 h1 hz
       ·omega)]
      refine ih (p+7) _ _ res q g (by omega) (by omega) h hl (by rw [hl2];exact hlp2) ?_
      intro h7 h8
      rw [hl2] at h8 ⊢
      have h9:=run_out res out.length (by omega) (by rw [hrk];simpa using h7) (by rw [hrk];omega)
      rw [hrk,show out.length+k+1=out.length+1+k by omega] at h9
      exact h9
     ·rw [if_neg h4] at h
      cases h
    ·rw [if_neg h3] at h ⊢
     have hl2:(out++[((bt V p 4:Nat):Int)]).length=out.length+1:=by simp
     obtain ⟨⟨rest,hr⟩,hq,-⟩:=gq_ext n V s f _ _ _ _ h
     have hz:res.getD out.length 0=((bt V p 4:Nat):Int):=by
      rw [hr,List.append_assoc,getD_app0]
      rfl
     have hv:=bt_lt V p 4
     rw [lp_pos _ _ _ _ _ (by omega) (by rw [hz];omega),hz,lp_shift,show q - p=4+(q - (p+4)) by omega,bt_split,Int.toNat_natCast] at hlp
     have hlp2:lp res g (out.length+1) 0 0=(q - (p+4),bt V (p+4) (q - (p+4))):=by
      generalize bt V (p+4) (q - (p+4))=u at *
      generalize bt V p 4=v at *
      generalize lp res g (out.length+1) 0 0=x at *
      simp only [Prod.mk.injEq] at hlp
      obtain ⟨e1,e2⟩:=hlp
      obtain ⟨x1,x2⟩:=x
      simp only at e1 e2
      simp only [Prod.mk.injEq]
      omega
     exact ih (p+4) _ false res q g (by omega) (by omega) h hl (by rw [hl2];exact hlp2) (by simp)
   ·rw [if_neg h2] at h
    cases h
  ·rw [if_neg h1] at h ⊢
   exact h
theorem gi_iff (n V s p:Nat) (res:List Int) (q:Nat):gi n V s s p [] false=some (res,q)↔gq n V s s p []=some (res,q)∧res.length=s∧lpF res=(q - p,bt V p (q - p)):=by
 constructor
 ·intro h
  obtain ⟨-,r1,r2,-,r4,r5⟩:=gi_yes n V s s p [] false res q (by simp) (by simp) h
  refine ⟨r5,r1,?_⟩
  have:=r4 s 0 0 (by simp)
  unfold lpF
  rw [r1]
  simpa using this
 ·rintro ⟨h1,h2,h3⟩
  refine gq_yes n V s s p [] false res q s (by simp) (by simp) h1 h2 ?_ (by simp)
  unfold lpF at h3
  rw [h2] at h3
  exact h3
end Go.Proofs.YtaibkchbkedjnaaGreatDoor
