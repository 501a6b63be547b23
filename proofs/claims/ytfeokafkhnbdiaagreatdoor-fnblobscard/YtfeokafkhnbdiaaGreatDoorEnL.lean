/- Lemmas on the way. -/
import Derived.Test.YtfeokafkhnbdiaaGreatDoorPcB
import Derived.LaidEql
import Derived.Stop.Asserts
import Derived.RowKitTokens
import Derived.Test.YtfeokafkhnbdiaaGreatDoorSome1
import Derived.Test.YtfeokafkhnbdiaaGreatDoorPut4
import Derived.Test.YtfeokafkhnbdiaaGreatDoorEnM
import Derived.Test.YtfeokafkhnbdiaaGreatDoorINorm4
set_option maxRecDepth 20000
set_option maxHeartbeats 16000000
namespace Go.Proofs.YtfeokafkhnbdiaaGreatDoor
open Go.RowKit Go.Extern.Stop Go.Stop Go.Extern
set_option linter.unusedVariables false
theorem isTypeOf (v:Value) (w:World):(Extern.ReflectliteType.typeOf #[.iface 246 v]).run Tryz.prog w=.ok (.iface 226 (.agg #[.pointer (some ⟨21,246,none⟩)])) w:=by kernel_rfl
noncomputable def cmpX:Array Value→Sem Value:=(find Tryz.f197).getD (fun _=>pure .nilIface)
theorem isComparable (w:World):(cmpX #[.agg #[.pointer (some ⟨21,246,none⟩)]]).run Tryz.prog w=.ok (.bool true) w:=by kernel_rfl
theorem isComp :(Tryz.prog.info? 246).map (·.comparable)=some true:=by kernel_rfl
theorem isSize :(Tryz.prog.info? 272).map (·.size)=some 1:=by kernel_rfl
theorem isMethod (v : Value) (w : World) : (Go.method 383 226 v "Comparable").run Tryz.prog w = .ok (197, v) w := by kernel_rfl
set_option maxRecDepth 100000 in
/-- errors.Is(x, x). -/
theorem is_same (a:Addr) (w:World) :
  Calls Tryz.prog 127 #[.iface 246 (.pointer (some a)),.iface 246 (.pointer (some a))] w fun e w'=>e=.returned (.bool true)∧w'=w:=by
 obtain ⟨i,hi,hcmp⟩:=Option.map_eq_some_iff.1 isComp
 obtain ⟨j,hj,hjs⟩:=Option.map_eq_some_iff.1 isSize
 have hT:=@run_callFunc_extern Tryz.prog 148 _ Extern.ReflectliteType.typeOf Tryz.func148 (by kernel_rfl) (by kernel_rfl) (by kernel_rfl) (by kernel_rfl)
 have hC:=@run_callFunc_extern Tryz.prog 197 _ cmpX Tryz.func197 (by kernel_rfl) (by kernel_rfl) (by kernel_rfl) (by kernel_rfl)
 have tT:=isTypeOf
 have cT:=isComparable
 have mR:=isMethod
 have heq:=run_eql_iface_ptr_same (P:=Tryz.prog) w a Tryz.underlying70 Tryz.underlying246 hi hcmp hj
 go_enter Tryz.func127,Tryz.ntmps127
 go_wp2
 refine wp_loop_rounds 1 ?_
 rw [rounds_succ]
 go_wp2
 go_ret
 exact ⟨rfl,rfl⟩
end Go.Proofs.YtfeokafkhnbdiaaGreatDoor
namespace Go.Proofs.YtfeokafkhnbdiaaGreatDoor
open Go.RowKit
set_option linter.unusedVariables false
/-- What put answers where no room is left: just the sentinel. -/
theorem wput_full (R:Nat) (v:Value) (n:Nat) (x width room:Int) (X:Value) (w:World) (hR:w.heap[R]?=some (.cells #[v,.int .i64 n,.int .i64 room] 73 (0,0))) (hn:n≤4104) (hr0:0≤room) (hroom:room≤5000)
  (g1:w.cell? ⟨6,0,none⟩=some X) (k1:0≤width) (k2:width≤30) (k3:0≤x) (k4':x<2 ^ width.toNat) (k5:room-n<width) :
  Calls Tryz.prog 79 #[.pointer (some ⟨R,0,none⟩),.int .i64 x,.int .i64 width] w fun e w'=>e=.returned X∧∃ m,w'=w.drewN m:=by
 have k4:x<wrap64 (2 ^ width.toNat):=by rw [wrap_pow _ (by omega)];exact k4'
 have c1:w.cell? ⟨R,1,none⟩=some (.int .i64 n):=cellR (j:=1) hR rfl
 have c2:w.cell? ⟨R,2,none⟩=some (.int .i64 room):=cellR (j:=2) hR rfl
 clear hR k4'
 have hd:Hid (decide (0≤width∧width≤30)=true):=by simp [Hid];omega
 go_enter Tryz.func79,Tryz.ntmps79
 go_wp2_with fail
 refine (widthOk_any width _).mono ?_
 rintro e w1 ⟨rfl,rfl⟩
 rw [hd.out]
 go_wp2
 go_quiet (fail)
 go_wp2
 go_ret
 exact ⟨rfl,_,rfl⟩
theorem OwnV.only {S:Nat→Prop} {w w':World} {B:Nat} {v:Value} {zs:List Int} (h:OwnV w B v zs) (ho:Only S w w') (hs:∀ k,v.ownBlock=some k→¬S k):OwnV w' B v zs:=by
 rcases h.1.2 with ⟨h1,h2⟩ | ⟨g,cap,cur,rfl,r⟩
 ·exact ⟨⟨h.1.1,.inl ⟨h1,h2⟩⟩,h.2⟩
 ·exact Own.only (g:=g) (cap:=cap) h ho (hs g rfl)
theorem OwnV.ne {w:World} {B k R:Nat} {v:Value} {zs:List Int} {cur:Array Value} {T:TypeId} (h:OwnV w B v zs) (hk:v.ownBlock=some k) (hR:w.heap[R]?=some (.cells cur T (0,0))) (hT:T≠5):k≠R:=by
 rcases h.1.2 with ⟨rfl,h2⟩ | ⟨g,cap,cur',rfl,hg,hh,r⟩
 ·simp [Value.ownBlock] at hk
 ·simp [Value.ownBlock] at hk
  subst hk
  exact Own.ne (g:=g) (cap:=cap) h hR hT
theorem Byt.belowB {w w':World} {a:Option Addr} {zs:List Int} {B:Nat} (h:Byt w a zs) (hb:Below B w w') (hB:0<zs.length→∀ x,a=some x→x.block<B):Byt w' a zs:=by
 refine ⟨h.1,fun hp=>?_⟩
 obtain ⟨g,off,rfl,hl,hc⟩:=h.2 hp
 have hg:=hB hp _ rfl
 exact ⟨g,off,rfl,Nat.lt_of_lt_of_le hl hb.size,fun i hi=>(hb.cell (p:=⟨g,off+i,none⟩) hg).trans (hc i hi)⟩
def atOf (w:World) (Q:Nat):Nat:=match w.cell? ⟨Q,2,none⟩ with | some (.int _ p)=>p.toNat | _=>0
structure Poured (w wr:World) (R B Q:Nat) (b:Option Addr) (L cb n V m U p0 j:Nat) (u:Value):Prop where
 hR:wr.heap[R]?=some (.cells #[u,.int .i64 ((n+j:Nat):Int),.int .i64 4096] 73 (0,0))
 hv:OwnV wr B u (enc (n+j) (V+(U % 2 ^ j)*2 ^ n))
 hQ:wr.heap[Q]?=some (.cells #[.slice b L cb,.int .i64 m,.int .i64 ((p0+j:Nat):Int)] 109 (0,0))
 bel:Below B w wr
theorem Poured.drewN {w wr:World} {R B Q:Nat} {b:Option Addr} {L cb n V m U p0 j:Nat} {u:Value} (h:Poured w wr R B Q b L cb n V m U p0 j u) (k:Nat):Poured w (wr.drewN k) R B Q b L cb n V m U p0 j u:=
 ⟨h.hR,h.hv,h.hQ,below_drewN h.bel k⟩
theorem Poured.ne {w wr:World} {R B Q:Nat} {b:Option Addr} {L cb n V m U p0 j:Nat} {u:Value} (h:Poured w wr R B Q b L cb n V m U p0 j u):Q≠R:=by
 rintro rfl
 have:=h.hR.symm.trans h.hQ
 simp at this
set_option maxRecDepth 100000 in
/-- errors.Is(nil, x). -/
theorem is_nil (T:TypeId) (x:Value) (w:World) :
  Calls Tryz.prog 127 #[.nilIface,.iface T x] w fun e w'=>e=.returned (.bool false)∧w'=w:=by
 have hl:=run_eql_iface_nil_left (P:=Tryz.prog) (w:=w) T x Tryz.underlying70
 go_enter Tryz.func127,Tryz.ntmps127
 go_wp2
 go_ret
 exact ⟨rfl,rfl⟩
theorem shift_part (U p0 j s:Nat):U / 2 ^ (p0+j) % 2 ^ s=U / 2 ^ p0 / 2 ^ j % 2 ^ s:=by
 rw [Nat.pow_add,Nat.div_div_eq_div_mul]
set_option maxRecDepth 100000 in
/-- The reader is at p0, its last bit ahead of m; its bytes may hold more. -/
theorem pour_any (R B Q:Nat) (v:Value) (b:Option Addr) (cb:Nat) (ys:List Int) (n V m M U0 p0:Nat) (T1:TypeId) (pe:Addr) (x1:Value) (w:World)
  (hR:w.heap[R]?=some (.cells #[v,.int .i64 n,.int .i64 4096] 73 (0,0))) (hv:OwnV w B v (enc n V)) (hV:V<2 ^ n) (hB:B≤w.heap.size)
  (hQ:w.heap[Q]?=some (.cells #[.slice b ys.length cb,.int .i64 m,.int .i64 p0] 109 (0,0))) (hb:Byt w b ys) (hy:ys=enc M U0) (hn:n≤4096) (hm:m≤M) (hM:M≤4096) (hpm0:p0≤m)
  (hBR:B≤R) (hBQ:B≤Q) (hG:11<B∧6<B) (hbB:0<ys.length→∀ x,b=some x→x.block<B)
  (g0:w.cell? ⟨11,0,none⟩=some (.iface 246 (.pointer (some pe)))) (g1:w.cell? ⟨6,0,none⟩=some (.iface T1 x1)) :
  Calls Tryz.prog 98 #[.pointer (some ⟨R,0,none⟩),.pointer (some ⟨Q,0,none⟩)] w fun e w'=>
   Below B w w'∧(n+(m-p0)≤4096→e=.returned .nilIface∧∃ v',w'.heap[R]?=some (.cells #[v',.int .i64 ((n+(m-p0):Nat):Int),.int .i64 4096] 73 (0,0))∧OwnV w' B v' (enc (n+(m-p0)) (V+(U0 / 2 ^ p0 % 2 ^ (m-p0))*2 ^ n))) ∧
    (4096<n+(m-p0)→e=.returned (.iface T1 x1)):=by
 obtain ⟨U,hUe⟩:∃ U,U=U0 / 2 ^ p0:=⟨_,rfl⟩
 have HU:Hid (U=U0 / 2 ^ p0):=hUe
 obtain ⟨d,rfl⟩:∃ d,m=p0+d:=⟨m-p0,by omega⟩
 rw [Nat.add_sub_cancel_left,←hUe]
 clear hUe
 have HR:Hid (Poured w w R B Q b ys.length cb n V (p0+d) U p0 0 v):=⟨hR,by simpa [Nat.mod_one] using hv,hQ,Below.refl _ _⟩
 have HY:Hid (ys=enc M U0):=hy
 have HVV:Hid (V<2 ^ n):=hV
 clear hR hv hQ hy hV
 go_enter Tryz.func98,Tryz.ntmps98
 go_wp2
 go_loopw [] (fun wr=>∃ (j:Nat) (u:Value),j≤d∧n+j≤4096∧Poured w wr R B Q b ys.length cb n V (p0+d) U p0 j u) (fun wr=>p0+d-atOf wr Q)
 case atStart=>exact ⟨0,v,Nat.zero_le _,by omega,HR.out⟩
 case round=>
  obtain ⟨j,u,hpm,hnp,hP⟩:=hrel
  have e0:=keep hP.bel hG.1 g0
  have c1:wr.cell? ⟨Q,1,none⟩=some (.int .i64 ((p0+d:Nat):Int)):=cellR (j:=1) hP.hQ rfl
  have c2:wr.cell? ⟨Q,2,none⟩=some (.int .i64 ((p0+j:Nat):Int)):=cellR (j:=2) hP.hQ rfl
  have c0:wr.cell? ⟨Q,0,none⟩=some (.slice b ys.length cb):=cellR (j:=0) hP.hQ rfl
  have hat:atOf wr Q=p0+j:=by simp [atOf,c2];omega
  have HE0:Hid (wr.cell? ⟨11,0,none⟩=some (.iface 246 (.pointer (some pe)))):=e0
  have HC:Hid _:=(⟨c0,c1,c2⟩:_∧_∧_)
  have HAT:Hid (atOf wr Q=p0+j):=hat
  clear e0 c0 c1 c2 hat
  by_cases hlt:j<d
  ·have HP:Hid (Poured w wr R B Q b ys.length cb n V (p0+d) U p0 j u):=hP
   have HF:Hid (wr.frozen? ⟨Q,2,none⟩=false):=frozenR hP.hQ
   clear hP
   go_wp2_with fail
   refine (some_yes Q b cb ys (p0+d) M U0 (p0+j) wr (by omega) (by omega) hm (hb.belowB HP.out.bel hbB) HY.out (by omega) HC.out.1 HC.out.2.1 HC.out.2.2 HF.out).mono ?_
   rintro e w1 ⟨rfl,k1,rfl⟩
   obtain ⟨s,hs⟩:∃ s,s=min (d-j) 30:=⟨_,rfl⟩
   rw [show min (p0+d-(p0+j)) 30=s from by omega,shift_part,←HU.out]
   have hX:U / 2 ^ j % 2 ^ s<2 ^ s:=Nat.mod_lt _ (Nat.pow_pos (by omega))
   have HPP:Hid (V+(U % 2 ^ j)*2 ^ n+(U / 2 ^ j % 2 ^ s)*2 ^ (n+j)=V+(U % 2 ^ (j+s))*2 ^ n):=put_part n V U j s
   have HVP:Hid (V+(U % 2 ^ j)*2 ^ n<2 ^ (n+j)):=put_lt n V j (U % 2 ^ j) HVV.out (Nat.mod_lt _ (Nat.pow_pos (by omega)))
   generalize U / 2 ^ j % 2 ^ s=X at *
   have HXI:Hid ((X:Int)<2 ^ ((s:Int)).toNat):=by
    have e:((2:Int) ^ s)=((2 ^ s:Nat):Int):=by simp
    rw [Int.toNat_natCast,e]
    show (X:Int)<_
    exact Int.ofNat_lt.2 hX
   have hP1:=HP.out.drewN k1
   have hne:=hP1.ne
   have hszw:=hP1.bel.size
   have hs1:s≤30:=by omega
   have hs2:j+s≤d:=by omega
   have hs3:0<s:=by omega
   clear hs hX
   rw [show p0+j+s=p0+(j+s) from by omega]
   have hO1:Only (fun k=>k=Q) (wr.drewN k1) ((wr.drewN k1).setCell ⟨Q,2,none⟩ (.int .i64 ((p0+(j+s):Nat):Int))):=Only.setCell (Only.refl (fun k=>k=Q) (wr.drewN k1)) (p:=⟨Q,2,none⟩) (.inl rfl) _
   have hR1:((wr.drewN k1).setCell ⟨Q,2,none⟩ (.int .i64 ((p0+(j+s):Nat):Int))).heap[R]?=some (.cells #[u,.int .i64 ((n+j:Nat):Int),.int .i64 4096] 73 (0,0)):=by
    rw [Below.heap_setCell _ _ _ _ (by simpa using hne.symm)];exact hP1.hR
   have hQ1:((wr.drewN k1).setCell ⟨Q,2,none⟩ (.int .i64 ((p0+(j+s):Nat):Int))).heap[Q]?=some (.cells #[.slice b ys.length cb,.int .i64 ((p0+d:Nat):Int),.int .i64 ((p0+(j+s):Nat):Int)] 109 (0,0)):=by
    rw [heap_setCell_same _ Q 2 _ _ _ hP1.hQ];simp
   have hv1:OwnV ((wr.drewN k1).setCell ⟨Q,2,none⟩ (.int .i64 ((p0+(j+s):Nat):Int))) B u (enc (n+j) (V+(U % 2 ^ j)*2 ^ n)):=OwnV.only hP1.hv hO1 (fun k hk=>OwnV.ne hP1.hv hk hP1.hQ (by decide))
   have hb1:Below B w ((wr.drewN k1).setCell ⟨Q,2,none⟩ (.int .i64 ((p0+(j+s):Nat):Int))):=hP1.bel.setCell (by simpa using hBQ) _
   have hz1:B≤((wr.drewN k1).setCell ⟨Q,2,none⟩ (.int .i64 ((p0+(j+s):Nat):Int))).heap.size:=Nat.le_trans hB hb1.size
   clear hP1 hO1 HP HF HC HE0
   generalize (wr.drewN k1).setCell ⟨Q,2,none⟩ (.int .i64 ((p0+(j+s):Nat):Int))=w1 at *
   have H1:Hid _:=(⟨hR1,hQ1,hv1,hb1⟩:_∧_∧_∧_)
   have e0:=keep H1.out.2.2.2 hG.1 g0
   clear hR1 hQ1 hv1 hb1
   go_wp2_with fail
   refine (is_nil _ _ _).mono ?_
   rintro e w1' ⟨rfl,rfl⟩
   clear e0
   by_cases hfit:n+j+s≤4096
   ·go_wp2_with fail
    refine (wput_yes R B u (n+j) (V+(U % 2 ^ j)*2 ^ n) (X:Int) (s:Int) 4096 _ H1.out.1 H1.out.2.2.1 HVP.out hz1 (by omega) (by omega) (by omega) HXI.out (by omega) (by omega) (by omega)).mono ?_
    rintro e w2 ⟨rfl,v',hR2,hv2,ho2,hrow2⟩
    simp only [Int.toNat_natCast] at hR2 hv2
    rw [HPP.out] at hv2
    have hQl:Q<w1'.heap.size:=(Array.getElem?_eq_some_iff.1 H1.out.2.1).1
    have hQ2:=(ho2.block Q hQl (by
     rintro (h | h)
     ·exact hne h
     ·exact OwnV.ne H1.out.2.2.1 h H1.out.2.1 (by decide) rfl)).trans H1.out.2.1
    have hb2:Below B w w2:=H1.out.2.2.2.trans (ho2.below hz1 (by
     rintro k (h | h)
     ·omega
     ·exact (H1.out.2.2.1.1.lt _ h).1))
    have HF:Hid (Poured w w2 R B Q b ys.length cb n V (p0+d) U p0 (j+s) v'):=⟨by rw [hR2,Nat.add_assoc],by rw [←Nat.add_assoc];exact hv2,hQ2,hb2⟩
    have hat2:Hid (atOf w2 Q=p0+(j+s)):=by unfold Hid;simp [atOf,cellR (j:=2) hQ2 rfl];omega
    clear hR2 hv2 hQ2 hb2 ho2 hrow2 H1
    go_wp2
    go_roundw
    case rel=>exact ⟨j+s,v',by omega,by omega,HF.out⟩
    case measure=>rw [HAT.out,hat2.out];omega
   ·have e1:=keep H1.out.2.2.2 hG.2 g1
    go_wp2_with fail
    refine (wput_full R u (n+j) (X:Int) (s:Int) 4096 (.iface T1 x1) _ H1.out.1 (by omega) (by omega) (by omega) e1 (by omega) (by omega) (by omega) HXI.out (by omega)).mono ?_
    rintro e w2 ⟨rfl,k2,rfl⟩
    have HB2:Hid (Below B w (w1'.drewN k2)):=below_drewN H1.out.2.2.2 k2
    clear H1 e1
    generalize w1'.drewN k2=w2 at *
    go_wp2
    go_ret
    exact ⟨HB2.out,fun h=>by omega,fun _=>rfl⟩
  ·have hpe:j=d:=by omega
   subst hpe
   have HP:Hid (Poured w wr R B Q b ys.length cb n V (p0+j) U p0 j u):=hP
   clear hP
   go_wp2_with fail
   refine (some_no Q (p0+j) (p0+j) (.iface 246 (.pointer (some pe))) wr (by omega) rfl HC.out.2.1 HC.out.2.2 HE0.out).mono ?_
   rintro e w1 ⟨rfl,k1,rfl⟩
   have HP1:Hid (Poured w (wr.drewN k1) R B Q b ys.length cb n V (p0+j) U p0 j u):=HP.out.drewN k1
   clear HP HC HE0
   generalize wr.drewN k1=wf at *
   have e0:=keep HP1.out.bel hG.1 g0
   go_wp2_with fail
   refine (is_same pe _).mono ?_
   rintro e wf' ⟨rfl,rfl⟩
   go_wp2
   go_ret
   exact ⟨HP1.out.bel,fun _=>⟨rfl,u,HP1.out.hR,HP1.out.hv⟩,fun h=>by omega⟩
def KpQ (R Q:Nat) (w w':World):Prop:=∀ g cur T,w.heap[g]?=some (.cells cur T (0,0))→T≠5→g≠R→g≠Q→w'.heap[g]?=some (.cells cur T (0,0))
structure PouredT (w wr:World) (R B Q:Nat) (b:Option Addr) (L cb n V m U p0 j:Nat) (u:Value):Prop where
 hR:wr.heap[R]?=some (.cells #[u,.int .i64 ((n+j:Nat):Int),.int .i64 4096] 73 (0,0))
 hv:OwnV wr B u (enc (n+j) (V+(U % 2 ^ j)*2 ^ n))
 hQ:wr.heap[Q]?=some (.cells #[.slice b L cb,.int .i64 m,.int .i64 ((p0+j:Nat):Int)] 109 (0,0))
 bel:Below B w wr
 kp:KpQ R Q w wr
theorem PouredT.drewN {w wr:World} {R B Q:Nat} {b:Option Addr} {L cb n V m U p0 j:Nat} {u:Value} (h:PouredT w wr R B Q b L cb n V m U p0 j u) (k:Nat):PouredT w (wr.drewN k) R B Q b L cb n V m U p0 j u:=
 ⟨h.hR,h.hv,h.hQ,below_drewN h.bel k,h.kp⟩
theorem PouredT.ne {w wr:World} {R B Q:Nat} {b:Option Addr} {L cb n V m U p0 j:Nat} {u:Value} (h:PouredT w wr R B Q b L cb n V m U p0 j u):Q≠R:=by
 rintro rfl
 have:=h.hR.symm.trans h.hQ
 simp at this
set_option maxRecDepth 100000 in
/-- The reader is at p0, its last bit ahead of m; its bytes may hold more. -/
theorem pour_k (R B Q:Nat) (v:Value) (b:Option Addr) (cb:Nat) (ys:List Int) (n V m M U0 p0:Nat) (pe:Addr) (w:World)
  (hR:w.heap[R]?=some (.cells #[v,.int .i64 n,.int .i64 4096] 73 (0,0))) (hv:OwnV w B v (enc n V)) (hV:V<2 ^ n) (hB:B≤w.heap.size)
  (hQ:w.heap[Q]?=some (.cells #[.slice b ys.length cb,.int .i64 m,.int .i64 p0] 109 (0,0))) (hb:Byt w b ys) (hy:ys=enc M U0) (hn:n≤4096) (hm:m≤M) (hM:M≤4096) (hpm0:p0≤m) (hfit0:n+(m-p0)≤4096)
  (hBR:B≤R) (hBQ:B≤Q) (hG:11<B) (hbB:0<ys.length→∀ x,b=some x→x.block<B)
  (g0:w.cell? ⟨11,0,none⟩=some (.iface 246 (.pointer (some pe)))) :
  Calls Tryz.prog 98 #[.pointer (some ⟨R,0,none⟩),.pointer (some ⟨Q,0,none⟩)] w fun e w'=>
   Below B w w'∧KpQ R Q w w'∧e=.returned .nilIface∧∃ v',w'.heap[R]?=some (.cells #[v',.int .i64 ((n+(m-p0):Nat):Int),.int .i64 4096] 73 (0,0))∧OwnV w' B v' (enc (n+(m-p0)) (V+(U0 / 2 ^ p0 % 2 ^ (m-p0))*2 ^ n)):=by
 obtain ⟨U,hUe⟩:∃ U,U=U0 / 2 ^ p0:=⟨_,rfl⟩
 have HU:Hid (U=U0 / 2 ^ p0):=hUe
 obtain ⟨d,rfl⟩:∃ d,m=p0+d:=⟨m-p0,by omega⟩
 rw [Nat.add_sub_cancel_left] at hfit0
 rw [Nat.add_sub_cancel_left,←hUe]
 clear hUe
 have HR:Hid (PouredT w w R B Q b ys.length cb n V (p0+d) U p0 0 v):=⟨hR,by simpa [Nat.mod_one] using hv,hQ,Below.refl _ _,fun _ _ _ h _ _ _=>h⟩
 have HY:Hid (ys=enc M U0):=hy
 have HVV:Hid (V<2 ^ n):=hV
 clear hR hv hQ hy hV
 go_enter Tryz.func98,Tryz.ntmps98
 go_wp2
 go_loopw [] (fun wr=>∃ (j:Nat) (u:Value),j≤d∧n+j≤4096∧PouredT w wr R B Q b ys.length cb n V (p0+d) U p0 j u) (fun wr=>p0+d-atOf wr Q)
 case atStart=>exact ⟨0,v,Nat.zero_le _,by omega,HR.out⟩
 case round=>
  obtain ⟨j,u,hpm,hnp,hP⟩:=hrel
  have e0:=keep hP.bel hG g0
  have c1:wr.cell? ⟨Q,1,none⟩=some (.int .i64 ((p0+d:Nat):Int)):=cellR (j:=1) hP.hQ rfl
  have c2:wr.cell? ⟨Q,2,none⟩=some (.int .i64 ((p0+j:Nat):Int)):=cellR (j:=2) hP.hQ rfl
  have c0:wr.cell? ⟨Q,0,none⟩=some (.slice b ys.length cb):=cellR (j:=0) hP.hQ rfl
  have hat:atOf wr Q=p0+j:=by simp [atOf,c2];omega
  have HE0:Hid (wr.cell? ⟨11,0,none⟩=some (.iface 246 (.pointer (some pe)))):=e0
  have HC:Hid _:=(⟨c0,c1,c2⟩:_∧_∧_)
  have HAT:Hid (atOf wr Q=p0+j):=hat
  clear e0 c0 c1 c2 hat
  by_cases hlt:j<d
  ·have HP:Hid (PouredT w wr R B Q b ys.length cb n V (p0+d) U p0 j u):=hP
   have HF:Hid (wr.frozen? ⟨Q,2,none⟩=false):=frozenR hP.hQ
   clear hP
   go_wp2_with fail
   refine (some_yes Q b cb ys (p0+d) M U0 (p0+j) wr (by omega) (by omega) hm (hb.belowB HP.out.bel hbB) HY.out (by omega) HC.out.1 HC.out.2.1 HC.out.2.2 HF.out).mono ?_
   rintro e w1 ⟨rfl,k1,rfl⟩
   obtain ⟨s,hs⟩:∃ s,s=min (d-j) 30:=⟨_,rfl⟩
   rw [show min (p0+d-(p0+j)) 30=s from by omega,shift_part,←HU.out]
   have hX:U / 2 ^ j % 2 ^ s<2 ^ s:=Nat.mod_lt _ (Nat.pow_pos (by omega))
   have HPP:Hid (V+(U % 2 ^ j)*2 ^ n+(U / 2 ^ j % 2 ^ s)*2 ^ (n+j)=V+(U % 2 ^ (j+s))*2 ^ n):=put_part n V U j s
   have HVP:Hid (V+(U % 2 ^ j)*2 ^ n<2 ^ (n+j)):=put_lt n V j (U % 2 ^ j) HVV.out (Nat.mod_lt _ (Nat.pow_pos (by omega)))
   generalize U / 2 ^ j % 2 ^ s=X at *
   have HXI:Hid ((X:Int)<2 ^ ((s:Int)).toNat):=by
    have e:((2:Int) ^ s)=((2 ^ s:Nat):Int):=by simp
    rw [Int.toNat_natCast,e]
    show (X:Int)<_
    exact Int.ofNat_lt.2 hX
   have hP1:=HP.out.drewN k1
   have hne:=hP1.ne
   have hszw:=hP1.bel.size
   have hs1:s≤30:=by omega
   have hs2:j+s≤d:=by omega
   have hs3:0<s:=by omega
   clear hs hX
   rw [show p0+j+s=p0+(j+s) from by omega]
   have hO1:Only (fun k=>k=Q) (wr.drewN k1) ((wr.drewN k1).setCell ⟨Q,2,none⟩ (.int .i64 ((p0+(j+s):Nat):Int))):=Only.setCell (Only.refl (fun k=>k=Q) (wr.drewN k1)) (p:=⟨Q,2,none⟩) (.inl rfl) _
   have hR1:((wr.drewN k1).setCell ⟨Q,2,none⟩ (.int .i64 ((p0+(j+s):Nat):Int))).heap[R]?=some (.cells #[u,.int .i64 ((n+j:Nat):Int),.int .i64 4096] 73 (0,0)):=by
    rw [Below.heap_setCell _ _ _ _ (by simpa using hne.symm)];exact hP1.hR
   have hQ1:((wr.drewN k1).setCell ⟨Q,2,none⟩ (.int .i64 ((p0+(j+s):Nat):Int))).heap[Q]?=some (.cells #[.slice b ys.length cb,.int .i64 ((p0+d:Nat):Int),.int .i64 ((p0+(j+s):Nat):Int)] 109 (0,0)):=by
    rw [heap_setCell_same _ Q 2 _ _ _ hP1.hQ];simp
   have hv1:OwnV ((wr.drewN k1).setCell ⟨Q,2,none⟩ (.int .i64 ((p0+(j+s):Nat):Int))) B u (enc (n+j) (V+(U % 2 ^ j)*2 ^ n)):=OwnV.only hP1.hv hO1 (fun k hk=>OwnV.ne hP1.hv hk hP1.hQ (by decide))
   have hb1:Below B w ((wr.drewN k1).setCell ⟨Q,2,none⟩ (.int .i64 ((p0+(j+s):Nat):Int))):=hP1.bel.setCell (by simpa using hBQ) _
   have hq1:KpQ R Q w ((wr.drewN k1).setCell ⟨Q,2,none⟩ (.int .i64 ((p0+(j+s):Nat):Int))):=fun g cur T h1 h2 h3 h4=>(hO1.block g (Array.getElem?_eq_some_iff.1 (hP1.kp g cur T h1 h2 h3 h4)).1 h4).trans (hP1.kp g cur T h1 h2 h3 h4)
   have hz1:B≤((wr.drewN k1).setCell ⟨Q,2,none⟩ (.int .i64 ((p0+(j+s):Nat):Int))).heap.size:=Nat.le_trans hB hb1.size
   clear hP1 hO1 HP HF HC HE0
   generalize (wr.drewN k1).setCell ⟨Q,2,none⟩ (.int .i64 ((p0+(j+s):Nat):Int))=w1 at *
   have H1:Hid _:=(⟨hR1,hQ1,hv1,hb1,hq1⟩:_∧_∧_∧_∧_)
   have e0:=keep H1.out.2.2.2.1 hG g0
   clear hR1 hQ1 hv1 hb1 hq1
   go_wp2_with fail
   refine (is_nil _ _ _).mono ?_
   rintro e w1' ⟨rfl,rfl⟩
   clear e0
   by_cases hfit:n+j+s≤4096
   ·go_wp2_with fail
    refine (wput_yes R B u (n+j) (V+(U % 2 ^ j)*2 ^ n) (X:Int) (s:Int) 4096 _ H1.out.1 H1.out.2.2.1 HVP.out hz1 (by omega) (by omega) (by omega) HXI.out (by omega) (by omega) (by omega)).mono ?_
    rintro e w2 ⟨rfl,v',hR2,hv2,ho2,hrow2⟩
    simp only [Int.toNat_natCast] at hR2 hv2
    rw [HPP.out] at hv2
    have hQl:Q<w1'.heap.size:=(Array.getElem?_eq_some_iff.1 H1.out.2.1).1
    have hQ2:=(ho2.block Q hQl (by
     rintro (h | h)
     ·exact hne h
     ·exact OwnV.ne H1.out.2.2.1 h H1.out.2.1 (by decide) rfl)).trans H1.out.2.1
    have hb2:Below B w w2:=H1.out.2.2.2.1.trans (ho2.below hz1 (by
     rintro k (h | h)
     ·omega
     ·exact (H1.out.2.2.1.1.lt _ h).1))
    have hq2:KpQ R Q w w2:=fun g cur T h1 h2 h3 h4=>by
     have h5:=H1.out.2.2.2.2 g cur T h1 h2 h3 h4
     refine (ho2.block g (Array.getElem?_eq_some_iff.1 h5).1 ?_).trans h5
     rintro (h | h)
     ·exact h3 h
     ·exact OwnV.ne H1.out.2.2.1 h h5 h2 rfl
    have HF:Hid (PouredT w w2 R B Q b ys.length cb n V (p0+d) U p0 (j+s) v'):=⟨by rw [hR2,Nat.add_assoc],by rw [←Nat.add_assoc];exact hv2,hQ2,hb2,hq2⟩
    have hat2:Hid (atOf w2 Q=p0+(j+s)):=by unfold Hid;simp [atOf,cellR (j:=2) hQ2 rfl];omega
    clear hR2 hv2 hQ2 hb2 hq2 ho2 hrow2 H1
    go_wp2
    go_roundw
    case rel=>exact ⟨j+s,v',by omega,by omega,HF.out⟩
    case measure=>rw [HAT.out,hat2.out];omega
   ·omega
  ·have hpe:j=d:=by omega
   subst hpe
   have HP:Hid (PouredT w wr R B Q b ys.length cb n V (p0+j) U p0 j u):=hP
   clear hP
   go_wp2_with fail
   refine (some_no Q (p0+j) (p0+j) (.iface 246 (.pointer (some pe))) wr (by omega) rfl HC.out.2.1 HC.out.2.2 HE0.out).mono ?_
   rintro e w1 ⟨rfl,k1,rfl⟩
   have HP1:Hid (PouredT w (wr.drewN k1) R B Q b ys.length cb n V (p0+j) U p0 j u):=HP.out.drewN k1
   clear HP HC HE0
   generalize wr.drewN k1=wf at *
   have e0:=keep HP1.out.bel hG g0
   go_wp2_with fail
   refine (is_same pe _).mono ?_
   rintro e wf' ⟨rfl,rfl⟩
   go_wp2
   go_ret
   exact ⟨HP1.out.bel,HP1.out.kp,rfl,u,HP1.out.hR,HP1.out.hv⟩
theorem pour_w (R B Q:Nat) (b:Option Addr) (cb:Nat) (ys:List Int) (n V m U:Nat) (pe:Addr) (w:World) (h:WI w B R n V)
  (hQ:w.heap[Q]?=some (.cells #[.slice b ys.length cb,.int .i64 m,.int .i64 0] 109 (0,0))) (hb:Byt w b ys) (hy:ys=enc m U) (hU:U<2 ^ m) (hn:n≤4096) (hM:m≤4096) (hfit0:n+m≤4096) (hBQ:B≤Q) (hG:11<B) (hbB:0<ys.length→∀ x,b=some x→x.block<B)
  (g0:w.cell? ⟨11,0,none⟩=some (.iface 246 (.pointer (some pe)))) :
  Calls Tryz.prog 98 #[.pointer (some ⟨R,0,none⟩),.pointer (some ⟨Q,0,none⟩)] w fun e w'=>e=.returned .nilIface∧WI w' B R (n+m) (V+U*2 ^ n)∧Below B w w'∧KpQ R Q w w':=by
 obtain ⟨v,hR,hv,hV,hBR,hB⟩:=h
 refine (pour_k R B Q v b cb ys n V m m U 0 pe w hR hv hV hB (by simpa using hQ) hb hy hn nl hM (Nat.zero_le _) (by simpa using hfit0) hBR hBQ hG hbB g0).mono ?_
 rintro e w' ⟨hb',hk,rfl,v',hR',hv'⟩
 simp only [Nat.pow_zero,Nat.div_one,Nat.sub_zero,Nat.mod_eq_of_lt hU] at hR' hv'
 exact ⟨rfl,⟨v',hR',hv',put_lt n V m U hV hU,hBR,Nat.le_trans hB hb'.size⟩,hb',hk⟩
theorem implCounts_yes (a:Option Addr) (cap:Nat) (zs:List Int) (n:Nat) (w:World) (hb:Ins w a zs) (ht:txtB zs n=true) :
  Calls Tryz.prog 94 #[.slice a zs.length cap,.int .i64 n] w fun e w'=>
   e=.returned (.tuple #[.slice (some ⟨w.heap.size,0,none⟩) n n,.bool true])∧OwI w' w.heap.size w.heap.size n (cnts zs n)∧Below w.heap.size w w':=by
 obtain ⟨i0,hi,hz0,hz1,hz2⟩:=info_parts Tryz.infoI64
 obtain ⟨hn1,hn2,hn3⟩:=txtB_bnd ht
 have HTX:Hid (txtB zs n=true):=ht
 clear ht
 have hL:zs.length≤281474976710656:=by omega
 have HT:=implTxt_any a cap zs (n:Int) w hb hL
 rw [HTX.out] at HT
 generalize hlen:zs.length=L at *
 have HL:Hid (zs.length=L):=hlen
 clear hlen
 go_enter Tryz.func94,Tryz.ntmps94
 go_wp2_with fail
 refine HT.mono ?_
 rintro e w0 ⟨rfl,rfl⟩
 clear HT
 go_wp2_with (at_make;refine wpList_make_full _ rfl _ _ 38 rfl w0.heap.size 3 i0 (.int .i64 0) 1 Tryz.underlying38 hi hz0 hz1 .i64 .i64 _ _ n rfl rfl rfl rfl (by rw [hz2];omega) (by unfold maxLen;omega) nl ?_;intro w1 hown hgrow)
 have h0:OwI w1 w0.heap.size w0.heap.size n (cnts (zs.take 0) n):=by
  have e:cnts (zs.take 0) n=List.replicate n 0:=by simp [cnts]
  rw [e]
  refine ⟨?_,by intro z hz;simp at hz;omega⟩
  rw [made_zeroI] at hown
  simpa using hown
 have hbw:Below w0.heap.size w0 w1:=(Below.refl _ _).grown hgrow nl (by intro k hk;cases hk)
 have H0:Hid (OwI w1 w0.heap.size w0.heap.size n (cnts (zs.take 0) n)):=h0
 clear h0 hown hgrow hi hz0 hz1 hz2
 go_loopw [17] (fun i wr=>∃ k:Nat,k≤L∧i=.int .i64 k∧OwI wr w0.heap.size w0.heap.size n (cnts (zs.take k) n)∧Below w0.heap.size w0 wr) (fun i _=>L-(intOf i).toNat)
 case atStart=>exact ⟨0,Nat.zero_le _,rfl,H0.out,hbw⟩
 case round=>
  obtain ⟨k,hk,rfl,hown,hbel⟩:=hrel
  have HO:Hid (OwI wr w0.heap.size w0.heap.size n (cnts (zs.take k) n)):=hown
  clear hown hbw
  by_cases hlt:k<L
  ·obtain ⟨b,off,rfl,hbl,hcells⟩:=hb.len_pos k (by rw [HL.out];exact hlt)
   have hsrc:wr.cell? ⟨b,off+k,none⟩=some (.int .i64 (zs.getD k 0)):=(hbel.cell (p:=⟨b,off+k,none⟩) hbl).trans (hcells k (by rw [HL.out];exact hlt))
   have hx:=txtB_get HTX.out k (by rw [HL.out];exact hlt)
   have HST:Hid (bump (cnts (zs.take k) n) (zs.getD k 0)=cnts (zs.take (k+1)) n):=cnts_take_succ zs n k (by rw [HL.out];exact hlt)
   generalize hxx:zs.getD k 0=x at *
   obtain ⟨x,rfl⟩:∃ j:Nat,x=j:=⟨x.toNat,by omega⟩
   have hdst:=HO.out.cell x (by rw [cnts_len];omega)
   have hfz:=HO.out.frozen x
   have hv:0≤(cnts (zs.take k) n).getD x 0∧(cnts (zs.take k) n).getD x 0≤300:=by
    have:=cnts_rng (zs.take k) n _ (getD_mem (zs:=cnts (zs.take k) n) (k:=x) (by rw [cnts_len];omega))
    have h3:(zs.take k).length≤300:=by rw [List.length_take,HL.out];omega
    omega
   have R:=HO.out.store x ((cnts (zs.take k) n).getD x 0+1) (by omega)
   have e:(cnts (zs.take k) n).set x ((cnts (zs.take k) n).getD x 0+1)=cnts (zs.take (k+1)) n:=by rw [←HST.out];simp [bump]
   rw [e] at R
   generalize (cnts (zs.take k) n).getD x 0=v at *
   have HR:Hid (OwI (wr.setCell ⟨w0.heap.size,x,none⟩ (.int .i64 (v+1))) w0.heap.size w0.heap.size n (cnts (zs.take (k+1)) n)):=R
   have HB:Hid (Below w0.heap.size w0 (wr.setCell ⟨w0.heap.size,x,none⟩ (.int .i64 (v+1)))):=hbel.setCell (p:=⟨w0.heap.size,x,none⟩) nl (.int .i64 (v+1))
   clear R e hcells hb hxx
   go_wp2
   go_roundw
   case rel=>exact ⟨k+1,by omega,by go_num,by simpa using HR.out,by simpa using HB.out⟩
   case measure=>simp [intOf];omega
  ·have hkn:k=L:=by omega
   subst hkn
   have hall:=HO.out
   rw [List.take_of_length_le (by rw [HL.out];exact Nat.le_refl _)] at hall
   have HA:Hid (OwI wr w0.heap.size w0.heap.size n (cnts zs n)):=hall
   clear hall
   go_wp2
   exact bodyPost_ret (v:=.tuple #[.slice (some ⟨w0.heap.size,0,none⟩) n n,.bool true]) (by simp [results,Tryz.results94,go_sem]) rfl ⟨rfl,HA.out,hbel⟩
set_option linter.unusedSimpArgs false
structure SentE (w:World):Prop where
 sC:SentC w
 sS:Sent w 14
 ov:∃ pe,w.cell? ⟨11,0,none⟩=some (.iface 246 (.pointer (some pe)))
 hG:14<w.heap.size∧11<w.heap.size
theorem SentE.below {w w':World} (h:SentE w) (hb:Below w.heap.size w w'):SentE w':=
 ⟨h.sC.below hb,h.sS.below hb h.hG.1,by obtain ⟨pe,hp⟩:=h.ov;exact ⟨pe,keep hb h.hG.2 hp⟩,by have:=hb.size;have:=h.hG;omega⟩
theorem SentE.belowB {w w':World} {B:Nat} (h:SentE w) (hB:w.heap.size=B) (hb:Below B w w'):SentE w':=h.below (by rw [hB];exact hb)
structure InE (w0:World) (B:Nat) (a:Option Addr) (zs:List Int) (b:Option Addr) (ys:List Int) (m U:Nat):Prop where
 hs:Ins w0 a zs
 hb:Byt w0 b ys
 hB:w0.heap.size=B
 hy:ys=enc m U
 hU:U<2 ^ m
 ht:txtB zs 40=true
 h1:1≤zs.length
 h2:zs.length≤64
 hm:m≤500
 sE:SentE w0
theorem InE.blk {w0:World} {B:Nat} {a:Option Addr} {zs:List Int} {b:Option Addr} {ys:List Int} {m U:Nat} (h:InE w0 B a zs b ys m U):0<ys.length→∀ x,b=some x→x.block<B:=by
 intro hp x hx
 obtain ⟨k,o,e,hk,_⟩:=h.hb.2 hp
 rw [hx] at e
 have:=h.hB
 simp only [Option.some.injEq] at e
 subst e
 show k<B
 omega
theorem putByLengths_any (R B n0 V0:Nat) (a:Option Addr) (ca:Nat) (zs:List Int) (b:Option Addr) (cb:Nat) (ys:List Int) (m U:Nat) (w0 w:World) (hw:WI w B R n0 V0) (hi:InE w0 B a zs b ys m U) (hbel:Below B w0 w) (hn0:n0≤100) :
  Calls Tryz.prog 86 #[.pointer (some ⟨R,0,none⟩),.slice a zs.length ca,.agg #[.slice b ys.length cb,.int .i64 m]] w fun e w'=>e=.returned .nilIface∧WI w' B R (byL zs m U n0 V0).1 (byL zs m U n0 V0).2∧Below B w0 w':=by
 have HI:Hid (InE w0 B a zs b ys m U):=hi
 have hle:=byL_le hi.ht hi.h1 n0 V0
 obtain ⟨hok1,hok2⟩:=tL_ok hi.ht hi.h1
 have HTL:Hid (lensB (tL zs)=true∧coded (tL zs) zs∧(tL zs).length=40∧(lpG (tL zs) n0 V0).1≤n0+280∧hN (tL zs) zs zs.length≤12*zs.length):=⟨hok1,hok2,tL_len zs,hle.1,hle.2⟩
 have HWA:Hid (Below w.heap.size w (w.alloc (.cells #[.slice b ys.length cb,.int .i64 m] 40))):=bAw
 have HQ0:Hid ((w.alloc (.cells #[.slice b ys.length cb,.int .i64 m] 40)).heap[w.heap.size]?=some (.cells #[.slice b ys.length cb,.int .i64 m] 40 (0,0))):=heap_alloc_new w _
 have hRlt:R<w.heap.size:=by obtain ⟨_,h,_⟩:=hw;exact (Array.getElem?_eq_some_iff.1 h).1
 have hBw:B≤w.heap.size:=by obtain ⟨_,_,_,_,_,h⟩:=hw;exact h
 have hz2:=hi.h2
 have hm5:=hi.hm
 have HW:Hid (WI (w.alloc (.cells #[.slice b ys.length cb,.int .i64 m] 40)) B R n0 V0∧Below B w0 (w.alloc (.cells #[.slice b ys.length cb,.int .i64 m] 40))):=⟨hw.stay HWA.out,hbel.trans (HWA.out.mono hBw)⟩
 have hzA:w.heap.size<(w.alloc (.cells #[.slice b ys.length cb,.int .i64 m] 40)).heap.size:=by simp
 have HC1:Calls Tryz.prog 94 #[.slice a zs.length ca,.int .i64 40] (w.alloc (.cells #[.slice b ys.length cb,.int .i64 m] 40)) _:=implCounts_yes a ca zs 40 _ (hi.hs.below HW.out.2 (by have:=hi.hB;omega)) hi.ht
 clear hw hi hbel hle hok1 hok2 HWA
 go_enter Tryz.func86,Tryz.ntmps86
 go_wp2_with fail
 generalize w.alloc (.cells #[.slice b ys.length cb,.int .i64 m] 40)=WA at *
 generalize w.heap.size=Q0 at *
 refine HC1.mono ?_
 clear HC1
 rintro e w1 ⟨rfl,hoc,hb1⟩
 have HL:=implLens_yes (some ⟨WA.heap.size,0,none⟩) 40 (cnts zs 40) 12 w1 hoc.byt (cnts_lens HI.out.ht HI.out.h1)
 rw [cnts_len] at HL
 have HB1:Hid (Below WA.heap.size WA w1):=hb1
 clear hoc hb1
 go_wp2_with fail
 refine HL.mono ?_
 clear HL
 rintro e w2 ⟨⟨g,rfl,hog⟩,hb2⟩
 have hg:=hog.lt
 have hgR:g≠R:=by have:=HB1.out.size;omega
 have HR2:Hid (RowT w2 g (tL zs)):=hog.rowT
 have hb02:Below WA.heap.size WA w2:=HB1.out.trans (hb2.mono HB1.out.size)
 have HW2:Hid (WI w2 B R n0 V0∧Below B w0 w2∧w2.heap[Q0]?=some (.cells #[.slice b ys.length cb,.int .i64 m] 40 (0,0))):=⟨HW.out.1.stay hb02,HW.out.2.trans (hb02.mono (by omega)),(hb02.block Q0 hzA).trans HQ0.out⟩
 have hQR:Q0≠R:=by omega
 have hP1:=putLens_t g 40 (tL zs) R B n0 V0 w2 HR2.out hgR HW2.out.1 (by omega) (by rw [HTL.out.2.2.1];omega) (by rw [HTL.out.2.2.1];omega) (lensB_okH HTL.out.1).2.2
 rw [HTL.out.2.2.1] at hP1
 clear hog hb2 hb02 HW HQ0 HB1 hg hzA
 go_wp2_with fail
 refine hP1.mono ?_
 clear hP1
 rintro e w3 ⟨rfl,hwi3,hb3,hk3⟩
 have HW3:Hid (WI w3 B R (lpG (tL zs) n0 V0).1 (lpG (tL zs) n0 V0).2∧Below B w0 w3∧RowT w3 g (tL zs)∧w3.heap[Q0]?=some (.cells #[.slice b ys.length cb,.int .i64 m] 40 (0,0))):=⟨hwi3,HW2.out.2.1.trans hb3,HR2.out.kp hk3 hgR,hk3 Q0 _ _ HW2.out.2.2 (by decide) hQR⟩
 have hP2:=putCodes_t R B (lpG (tL zs) n0 V0).1 (lpG (tL zs) n0 V0).2 g 40 (tL zs) a ca zs w0 w3 HW3.out.1 HW3.out.2.2.1 hgR HI.out.hs HI.out.hB HW3.out.2.1 HTL.out.1 (by omega) (by have:=HTL.out.2.2.2.1;omega) (fun k hk=>by rw [HTL.out.2.2.1];exact txtB_get HI.out.ht k hk) HI.out.sE.sC
 rw [HTL.out.2.2.1] at hP2
 clear hwi3 hb3 hk3 HW2 HR2
 go_wp2_with fail
 refine hP2.mono ?_
 clear hP2
 rintro e w4 ⟨⟨hb4,hk4⟩,hyes,-⟩
 obtain ⟨rfl,hwi4⟩:=hyes HTL.out.2.1
 have hQ4:=hk4 Q0 _ _ HW3.out.2.2.2 (by decide) hQR
 have q0:w4.cell? ⟨Q0,0,none⟩=some (.slice b ys.length cb):=cellR (j:=0) hQ4 rfl
 have q1:w4.cell? ⟨Q0,1,none⟩=some (.int .i64 m):=cellR (j:=1) hQ4 rfl
 have hR4:R<w4.heap.size:=by obtain ⟨_,h,_⟩:=hwi4;exact (Array.getElem?_eq_some_iff.1 h).1
 have hB4:B≤w4.heap.size:=by obtain ⟨_,_,_,_,_,h⟩:=hwi4;exact h
 have HA5:Hid (Below w4.heap.size w4 (w4.alloc (.cells #[.slice b ys.length cb,.int .i64 m,.int .i64 0] 109))):=bAw
 have hbw5:Below B w0 (w4.alloc (.cells #[.slice b ys.length cb,.int .i64 m,.int .i64 0] 109)):=hb4.trans (HA5.out.mono hB4)
 obtain ⟨pe,hpe⟩:=(HI.out.sE.belowB HI.out.hB hbw5).ov
 have hP3:=pour_w R B w4.heap.size b cb ys ((lpG (tL zs) n0 V0).1+hN (tL zs) zs zs.length) _ m U pe _ (hwi4.stay HA5.out) (heap_alloc_new w4 _) (HI.out.hb.below hbw5 (by have:=HI.out.hB;omega)) HI.out.hy HI.out.hU (by have:=HTL.out.2.2.2;omega) (by omega) (by have:=HTL.out.2.2.2;omega) hB4 (by have:=HI.out.sE.hG.2;have:=HI.out.hB;omega) HI.out.blk hpe
 have HB5:Hid (Below B w0 (w4.alloc (.cells #[.slice b ys.length cb,.int .i64 m,.int .i64 0] 109))):=hbw5
 clear hb4 hk4 hwi4 hQ4 HW3 hbw5 hpe HA5
 go_wp2_with fail
 refine hP3.mono ?_
 clear hP3
 rintro e w6 ⟨rfl,hwi6,hb6,-⟩
 have HF:Hid (WI w6 B R (byL zs m U n0 V0).1 (byL zs m U n0 V0).2∧Below B w0 w6):=⟨hwi6,HB5.out.trans hb6⟩
 clear hwi6 hb6 HB5 q0 q1
 go_wp2
 go_ret
 exact ⟨rfl,HF.out⟩
end Go.Proofs.YtfeokafkhnbdiaaGreatDoor
