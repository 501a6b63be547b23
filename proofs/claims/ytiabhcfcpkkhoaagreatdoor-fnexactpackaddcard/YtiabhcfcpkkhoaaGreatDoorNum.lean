/-
  Plain mathematics: bytes as a number, a number as bytes; putting bits behind, getting some of them.
-/
import Derived.Test.YtiabhcfcpkkhoaaGreatDoorElC
import Derived.Test.YtiabhcfcpkkhoaaGreatDoorItEq
import Derived.Deep.AppendLies
import Derived.Deep.RegionLaw
import Derived.BigRegion
import Derived.Deep.RegionHeld3
namespace Go.Proofs.YtiabhcfcpkkhoaaGreatDoor
open Go.RowKit

def Ins (w:World) (a:Option Addr) (zs:List Int):Prop:=
  (∀ z ∈ zs,-9223372036854775808≤z∧z≤9223372036854775807)∧(0<zs.length→∃ b off,a=some ⟨b,off,none⟩∧b<w.heap.size∧∀ i,i<zs.length→w.cell? ⟨b,off+i,none⟩=some (.int .i64 (zs.getD i 0)))

def OwI (w:World) (B g cap:Nat) (zs:List Int):Prop:=
  w.ownsRow B 3 1 (.slice (some ⟨g,0,none⟩) zs.length cap) zs.length (zs.map (Value.int .i64))∧∀ z ∈ zs,-9223372036854775808≤z∧z≤9223372036854775807

theorem OwI.lt {w:World} {B g cap:Nat} {zs:List Int} (h:OwI w B g cap zs):B≤g∧g<w.heap.size:=h.1.lt g rfl

theorem OwI.cell {w:World} {B g cap:Nat} {zs:List Int} (h:OwI w B g cap zs) (i:Nat) (hi:i<zs.length):w.cell? ⟨g,i,none⟩=some (.int .i64 (zs.getD i 0)):=by
  rw [h.1.cellAt i (by omega)]
  simp [List.getElem?_eq_getElem hi]

theorem OwI.byt {w:World} {B g cap:Nat} {zs:List Int} (h:OwI w B g cap zs):Ins w (some ⟨g,0,none⟩) zs:=
  ⟨h.2,fun _=>⟨g,0,rfl,h.lt.2,fun i hi=>by rw [Nat.zero_add];exact h.cell i hi⟩⟩

theorem Ins.below {w w':World} {a:Option Addr} {zs:List Int} {B:Nat} (h:Ins w a zs) (hb:Below B w w') (hB:w.heap.size≤B):Ins w' a zs:=by
  refine ⟨h.1,fun hz=>?_⟩
  obtain ⟨b,off,rfl,hlt,hc⟩:=h.2 hz
  refine ⟨b,off,rfl,Nat.lt_of_lt_of_le hlt hb.size,fun i hi=>?_⟩
  rw [hb.cell (p:=⟨b,off+i,none⟩) (Nat.lt_of_lt_of_le hlt hB)]
  exact hc i hi

theorem OwI.below {w w':World} {B B' g cap:Nat} {zs:List Int} (h:OwI w B g cap zs) (hb:Below B' w w') (hB:w.heap.size≤B'):OwI w' B g cap zs:=by
  refine ⟨⟨h.1.1,?_⟩,h.2⟩
  rcases h.1.2 with ⟨h',_⟩ | ⟨g',cap',cur,h',hg,hh,r⟩
  · simp at h'
  · refine .inr ⟨g',cap',cur,h',hg,?_,r⟩
    rw [hb.block g' (by have:=(Array.getElem?_eq_some_iff.1 hh).1;omega)]
    exact hh

theorem OwI.mono {w:World} {B B' g cap:Nat} {zs:List Int} (h:OwI w B g cap zs) (hB:B'≤B):OwI w B' g cap zs:=by
  refine ⟨⟨h.1.1,?_⟩,h.2⟩
  rcases h.1.2 with ⟨h',_⟩ | ⟨g',cap',cur,h',hg,r⟩
  · simp at h'
  · exact .inr ⟨g',cap',cur,h',by omega,r⟩

theorem Ins.len_pos {w:World} {a:Option Addr} {zs:List Int} (h:Ins w a zs) (i:Nat) (hi:i<zs.length):∃ b off,a=some ⟨b,off,none⟩∧b<w.heap.size∧∀ i,i<zs.length→w.cell? ⟨b,off+i,none⟩=some (.int .i64 (zs.getD i 0)):=h.2 (by omega)

theorem getD_rngI {zs:List Int} (h:∀ z ∈ zs,-9223372036854775808≤z∧z≤9223372036854775807) (i:Nat):-9223372036854775808≤zs.getD i 0∧zs.getD i 0≤9223372036854775807:=by
  rw [List.getD_eq_getElem?_getD]
  by_cases hi:i<zs.length
  · rw [List.getElem?_eq_getElem hi];exact h _ (List.getElem_mem hi)
  · rw [List.getElem?_eq_none (by omega)];simp

theorem OwI.store {w:World} {B g cap:Nat} {zs:List Int} (h:OwI w B g cap zs) (i:Nat) (z:Int) (hz:-9223372036854775808≤z∧z≤9223372036854775807):OwI (w.setCell ⟨g,i,none⟩ (.int .i64 z)) B g cap (zs.set i z):=by
  have:=(h.1.stored i (.int .i64 z)).1
  refine ⟨?_,?_⟩
  · simpa [List.map_set] using this
  · intro y hy
    rcases List.mem_or_eq_of_mem_set hy with hy | rfl
    · exact h.2 y hy
    · exact hz

theorem OwI.frozen {w:World} {B g cap:Nat} {zs:List Int} (h:OwI w B g cap zs) (i:Nat):w.frozen? ⟨g,i,none⟩=false:=h.1.frozenAt i

theorem OwI.setCell_other {w:World} {B g cap:Nat} {zs:List Int} (h:OwI w B g cap zs) {p:Addr} (hp:p.block≠g) (u:Value):OwI (w.setCell p u) B g cap zs:=by
  refine ⟨⟨h.1.1,?_⟩,h.2⟩
  rcases h.1.2 with ⟨h',_⟩ | ⟨g',cap',cur,h',hg,hh,r⟩
  · simp at h'
  · have e:g'=g:=by simp at h';exact h'.1.symm
    subst e
    exact .inr ⟨g',cap',cur,h',hg,by rw [Below.heap_setCell _ _ _ _ (by omega)];exact hh,r⟩

theorem Ins.drewN {w:World} {a:Option Addr} {zs:List Int} (h:Ins w a zs) (n:Nat):Ins (w.drewN n) a zs:=h
theorem OwI.drewN {w:World} {B g cap:Nat} {zs:List Int} (h:OwI w B g cap zs) (n:Nat):OwI (w.drewN n) B g cap zs:=h

theorem OwI.alloc {w:World} {B g cap:Nat} {zs:List Int} (h:OwI w B g cap zs) (ob:Obj):OwI (w.alloc ob) B g cap zs:=h.below ((Below.refl w.heap.size w).alloc (Nat.le_refl _) ob) (Nat.le_refl _)
theorem Ins.alloc {w:World} {a:Option Addr} {zs:List Int} (h:Ins w a zs) (ob:Obj):Ins (w.alloc ob) a zs:=h.below ((Below.refl w.heap.size w).alloc (Nat.le_refl _) ob) (Nat.le_refl _)
set_option linter.unusedVariables false
theorem Tryz.infoI64 :(Tryz.prog.info? 3).map (fun i=>(i.zero,i.size,i.bytes))=some (some (.int .i64 0),1,8):=by kernel_rfl

theorem made_zeroI (n:Nat):(madeCells (Value.int .i64 0).cells (n * 1)).toList=(List.replicate n (0:Int)).map (Value.int .i64):=by
  simp only [madeCells,Value.cells,Nat.mul_one,Array.toList_map,Array.toList_range,List.map_replicate]
  rw [List.eq_replicate_iff]
  refine ⟨by simp,fun b hb=>?_⟩
  simp only [List.mem_map] at hb
  obtain ⟨x,_,rfl⟩:=hb
  simp [Nat.mod_one]



theorem OwI.only {S:Nat→Prop} {w w':World} {B g cap:Nat} {zs:List Int} (h:OwI w B g cap zs) (ho:Only S w w') (hs:¬ S g):OwI w' B g cap zs:=by
  refine ⟨⟨h.1.1,?_⟩,h.2⟩
  have hlt:=h.lt.2
  rcases h.1.2 with ⟨h',_⟩ | ⟨g',cap',cur,h',hg,hh,r⟩
  · simp at h'
  · have e:g'=g:=by simp at h';exact h'.1.symm
    subst e
    exact .inr ⟨g',cap',cur,h',hg,by rw [ho.block g' hlt hs];exact hh,r⟩

def MinI (w:World) (B U:Nat) (a:Option Addr) (cap:Nat) (zs:List Int):Prop:=
  (a=none∧zs=[]∧cap=0)∨∃ g,a=some ⟨g,0,none⟩∧B≤g∧g<U∧OwI w B g cap zs

theorem MinI.byt {w:World} {B U:Nat} {a:Option Addr} {cap:Nat} {zs:List Int} (h:MinI w B U a cap zs):Ins w a zs:=by
  rcases h with ⟨rfl,rfl,rfl⟩ | ⟨g,rfl,_,_,h⟩
  · exact ⟨by simp,by simp⟩
  · exact h.byt
theorem MinI.only {S:Nat→Prop} {w w':World} {B U:Nat} {a:Option Addr} {cap:Nat} {zs:List Int} (h:MinI w B U a cap zs) (ho:Only S w w') (hs:∀ k,B≤k→k<U→¬ S k):MinI w' B U a cap zs:=by
  rcases h with h | ⟨g,rfl,h1,h2,h⟩
  · exact .inl h
  · exact .inr ⟨g,rfl,h1,h2,h.only ho (hs g h1 h2)⟩
theorem MinI.below {w w':World} {B U:Nat} {a:Option Addr} {cap:Nat} {zs:List Int} (h:MinI w B U a cap zs) (ho:Below w.heap.size w w'):MinI w' B U a cap zs:=h.only (Only.ofBelow (S:=fun _=>False) ho (Nat.le_refl _)) (by simp)
theorem MinI.mono {w:World} {B U B' U':Nat} {a:Option Addr} {cap:Nat} {zs:List Int} (h:MinI w B U a cap zs) (h1:B'≤B) (h2:U≤U'):MinI w B' U' a cap zs:=by
  rcases h with h | ⟨g,rfl,g1,g2,h⟩
  · exact .inl h
  · exact .inr ⟨g,rfl,by omega,by omega,h.mono h1⟩
theorem OwI.mine {w:World} {B g cap:Nat} {zs:List Int} (h:OwI w B g cap zs):MinI w B w.heap.size (some ⟨g,0,none⟩) cap zs:=.inr ⟨g,rfl,h.lt.1,h.lt.2,h⟩

def Stab (lo hi:Nat) (P:World→Prop):Prop:=∀ (T:Nat→Prop) (W W':World),P W→Only T W W'→(∀ k,lo≤k→k<hi→¬ T k)→hi≤W.heap.size→P W'
theorem Stab.true (lo hi:Nat):Stab lo hi (fun _=>True):=fun _ _ _ _ _ _ _=>trivial
theorem Stab.and {lo hi:Nat} {P Q:World→Prop} (h:Stab lo hi P) (k:Stab lo hi Q):Stab lo hi (fun W=>P W∧Q W):=fun T W W' hp ho ht hl=>⟨h T W W' hp.1 ho ht hl,k T W W' hp.2 ho ht hl⟩
theorem Stab.cell {lo hi b o:Nat} {v:Value} (h1:lo≤b) (h2:b<hi):Stab lo hi (fun W=>W.cell? ⟨b,o,none⟩=some v):=fun T W W' hp ho ht hl=>ho.cell (by omega) (ht b h1 h2) hp
theorem Stab.mine {lo hi B U:Nat} {a:Option Addr} {c:Nat} {zs:List Int} (h1:lo≤B) (h2:U≤hi):Stab lo hi (fun W=>Mine W B U a c zs):=fun T W W' hp ho ht hl=>hp.only ho (fun k hk1 hk2=>ht k (by omega) (by omega))
theorem Stab.mono {lo hi lo' hi':Nat} {P:World→Prop} (h:Stab lo hi P) (h1:lo'≤lo) (h2:hi≤hi'):Stab lo' hi' P:=fun T W W' hp ho ht hl=>h T W W' hp ho (fun k h3 h4=>ht k (by omega) (by omega)) (by omega)
theorem Stab.below {lo hi:Nat} {P:World→Prop} (h:Stab lo hi P) {W W':World} (hp:P W) (hb:Below W.heap.size W W') (hl:hi≤W.heap.size):P W':=h _ _ _ hp (Only.ofBelow (S:=fun _=>False) hb (Nat.le_refl _)) (by simp) hl
set_option linter.unusedSimpArgs false
structure CopV (W:World) (B X:Nat) (v:Value) (ts ss:List El):Prop where
  cop:CopT W B v ts ss
  r:∀ k,v.ownBlock=some k→k<X
  d:∀ e ∈ ts,∀ k,rowOf e.a k→k<X
theorem CopV.stab {lo hi B X:Nat} {v:Value} {ts ss:List El} (h1:lo≤B) (h2:X≤hi):Stab lo hi (fun W=>CopV W B X v ts ss):=fun T W W' hp ho ht hl=>
  ⟨⟨hp.cop.ct,hp.cop.row.stay ho (fun k hk=>ht k (by have:=(hp.cop.row.blk hk).1;omega) (by have:=hp.r k hk;omega)),hp.cop.deep.stay ho (fun e he k hk=>ht k (by have:=((hp.cop.deep.mine e he).rowE hk).1;omega) (by have:=hp.d e he k hk;omega)),hp.cop.rng⟩,hp.r,hp.d⟩
theorem CopT.v {W:World} {B:Nat} {v:Value} {ts ss:List El} (h:CopT W B v ts ss):CopV W B W.heap.size v ts ss:=⟨h,fun k hk=>(h.row.blk hk).2,fun e he k hk=>((h.deep.mine e he).rowE hk).2⟩
def Ce3 (W:World) (b:Nat) (x y z:Value):Prop:=W.cell? ⟨b,0,none⟩=some x∧W.cell? ⟨b,1,none⟩=some y∧W.cell? ⟨b,2,none⟩=some z
def Ce2 (W:World) (b:Nat) (x y:Value):Prop:=W.cell? ⟨b,0,none⟩=some x∧W.cell? ⟨b,1,none⟩=some y
theorem Ce3.stab {lo hi b:Nat} {x y z:Value} (h1:lo≤b) (h2:b<hi):Stab lo hi (fun W=>Ce3 W b x y z):=(Stab.cell h1 h2).and ((Stab.cell h1 h2).and (Stab.cell h1 h2))
theorem Ce2.stab {lo hi b:Nat} {x y:Value} (h1:lo≤b) (h2:b<hi):Stab lo hi (fun W=>Ce2 W b x y):=(Stab.cell h1 h2).and (Stab.cell h1 h2)

theorem eqPack_cop (E O:Int) (a b:Option Addr) (ca cb:Nat) (fs us vs:List El) {B B':Nat} (w:World) (hu:CopT w B (.slice a us.length ca) us fs) (hv:CopT w B' (.slice b vs.length cb) vs fs) (hx:FewI fs) :
    Calls Tryz.prog 10 #[.agg #[.int .i64 E,.int .i64 O,.slice a us.length ca],.agg #[.int .i64 E,.int .i64 O,.slice b vs.length cb]] w fun e w'=>e=.returned (.bool true)∧Below w.heap.size w w':=by
  have:=eqPack_yes E O a b ca cb us vs w hu.its.els hv.its.els (hu.ct.trans hv.ct.symm) (hx.ct hu.ct)
  rw [show us.length=vs.length from by rw [len_ctE hu.ct,len_ctE hv.ct]] at this ⊢
  exact this
def okB (N:Int) (zs:List Int):Bool:=
  decide (0≤N∧N≤4096∧(zs.length:Int)=(N+7) / 8) && (N % 8 == 0 || zs.getD (zs.length - 1) 0 / 2 ^ (N % 8).toNat == 0)

theorem okB_neg {N:Int} {zs:List Int} (h:N<0):okB N zs=false:=by
  have:decide (0≤N∧N≤4096∧(zs.length:Int)=(N+7) / 8)=false:=by simp;omega
  rw [okB,this,Bool.false_and]
theorem okB_big {N:Int} {zs:List Int} (h:4096<N):okB N zs=false:=by
  have:decide (0≤N∧N≤4096∧(zs.length:Int)=(N+7) / 8)=false:=by simp;omega
  rw [okB,this,Bool.false_and]
theorem okB_len {N:Int} {zs:List Int} (h:¬ (zs.length:Int)=(N+7) / 8):okB N zs=false:=by
  have:decide (0≤N∧N≤4096∧(zs.length:Int)=(N+7) / 8)=false:=by simp;omega
  rw [okB,this,Bool.false_and]
theorem okB_full {N:Int} {zs:List Int} (h0:0≤N) (h1:N≤4096) (h2:(zs.length:Int)=(N+7) / 8) (h3:N % 8=0):okB N zs=true:=by
  have:decide (0≤N∧N≤4096∧(zs.length:Int)=(N+7) / 8)=true:=by simp;exact ⟨h0,h1,h2⟩
  rw [okB,this,h3];rfl
theorem okB_last {N:Int} {zs:List Int} (h0:0≤N) (h1:N≤4096) (h2:(zs.length:Int)=(N+7) / 8) (h3:¬ N % 8=0):okB N zs=(zs.getD (zs.length - 1) 0 / 2 ^ (N % 8).toNat == 0):=by
  have:decide (0≤N∧N≤4096∧(zs.length:Int)=(N+7) / 8)=true:=by simp;exact ⟨h0,h1,h2⟩
  have h3':(N % 8 == 0)=false:=by simpa using h3
  rw [okB,this,h3',Bool.true_and,Bool.false_or]
set_option maxHeartbeats 400000 in
theorem specOk_any (a:Option Addr) (cap:Nat) (zs:List Int) (N:Int) (w:World) (hb:Byt w a zs) (hn:zs.length≤281474976710656) :
    Calls Tryz.prog 47 #[.agg #[.slice a zs.length cap,.int .i64 N]] w fun e w'=>e=.returned (.bool (okB N zs))∧Below w.heap.size w w':=by
  have hw:Below w.heap.size w (w.alloc (Obj.cells #[Value.slice a zs.length cap,Value.int IntKind.i64 N] 63)):=(Below.refl _ _).alloc (Nat.le_refl _) _
  by_cases h0:N<0
  · have hE:okB N zs=false:=okB_neg h0
    rw [hE]
    clear hE
    go_enter Tryz.func47,Tryz.ntmps47
    go_wp2
    go_ret
    exact ⟨rfl,hw⟩
  · by_cases h1:4096<N
    · have hE:okB N zs=false:=okB_big h1
      rw [hE]
      clear hE
      go_enter Tryz.func47,Tryz.ntmps47
      go_wp2
      go_ret
      exact ⟨rfl,hw⟩
    · by_cases h2:(zs.length:Int)=(N+7) / 8
      · generalize hlz:zs.length=n at *
        have HL:Hid (zs.length=n):=hlz
        clear hlz
        have h2':((n:Int) != (N+7) / 8)=false:=by simpa using h2
        have H2:Hid ((n:Int)=(N+7) / 8):=h2
        clear h2
        by_cases h3:N % 8=0
        · have hE:okB N zs=true:=okB_full (by omega) (by omega) (by rw [HL.out];exact H2.out) h3
          have h3':(N % 8 == 0)=true:=by simpa using h3
          rw [hE]
          clear hE h3
          go_enter Tryz.func47,Tryz.ntmps47
          go_wp2
          go_quiet (fail)
          go_wp2
          go_ret
          exact ⟨rfl,below_drewN hw _⟩
        · have hn1:1≤n:=by have:=H2.out;omega
          have h3':(N % 8 == 0)=false:=by simpa using h3
          obtain ⟨b,off,rfl,hbl,hc⟩:=hb.len_pos (n - 1) (by rw [HL.out];omega)
          have hlast:=hc (n - 1) (by rw [HL.out];omega)
          have hr:=getD_rng hb.1 (n - 1)
          have hE:okB N zs=(zs.getD (n - 1) 0 / 2 ^ (N % 8).toNat == 0):=by
            rw [okB_last (by omega) (by omega) (by rw [HL.out];exact H2.out) h3,HL.out]
          rw [hE]
          clear hE
          generalize zs.getD (n - 1) 0=z at *
          go_enter Tryz.func47,Tryz.ntmps47
          go_wp2
          go_quiet (fail)
          go_wp2
          go_ret
          exact ⟨rfl,below_drewN hw _⟩
      · have hE:okB N zs=false:=okB_len h2
        have h2':((zs.length:Int) != (N+7) / 8)=true:=by rw [bne_iff_ne];exact h2
        rw [hE]
        clear hE h2
        go_enter Tryz.func47,Tryz.ntmps47
        go_wp2
        go_ret
        exact ⟨rfl,hw⟩
theorem addr_add (b off j:Nat):(⟨b,off,none⟩:Addr).add j=⟨b,off+j,none⟩:=by unfold Addr.add;split <;> simp_all

theorem news_of {w:World} {b off:Nat} {zs:List Int} (hc:∀ i,i<zs.length→w.cell? ⟨b,off+i,none⟩=some (.int .u8 (zs.getD i 0))) :
    ∀ j u,(zs.map (Value.int .u8))[j]?=some u→w.cell? ((⟨b,off,none⟩:Addr).add j)=some u:=by
  intro j u hu
  have hj:j<zs.length:=by
    rcases Nat.lt_or_ge j zs.length with h | h
    · exact h
    · rw [List.getElem?_eq_none (by simpa using h)] at hu;cases hu
  rw [addr_add,hc j hj]
  simp [hj] at hu
  simp [hj,← hu]

theorem oneCells (zs:List Int):∀ u ∈ zs.map (Value.int .u8),u.oneCell'=true:=by
  intro u hu
  simp only [List.mem_map] at hu
  obtain ⟨z,_,rfl⟩:=hu
  rfl

end Go.Proofs.YtiabhcfcpkkhoaaGreatDoor
namespace Go.Proofs.YtiabhcfcpkkhoaaGreatDoor

def val :List Int→Nat
  | [] => 0
  | z :: r => z.toNat + 256 * val r

def encL :Nat→Nat→List Int
  | 0, _ => []
  | k + 1, v => ((v % 256 : Nat) : Int) :: encL k (v / 256)

def enc (n v:Nat):List Int:=encL ((n+7) / 8) v

theorem encL_len (k v:Nat):(encL k v).length=k:=by
  induction k generalizing v with
  | zero => rfl
  | succ k ih => simp [encL, ih]

theorem enc_len (n v:Nat):(enc n v).length=(n+7) / 8:=encL_len _ _

theorem encL_rng (k v:Nat):∀ z ∈ encL k v,0≤z∧z≤255:=by
  induction k generalizing v with
  | zero => intro z hz; cases hz
  | succ k ih =>
    intro z hz
    simp only [encL,List.mem_cons] at hz
    rcases hz with rfl | hz
    · omega
    · exact ih _ z hz

theorem encL_get (k v i:Nat) (h:i<k):(encL k v).getD i 0=((v / 256 ^ i % 256:Nat):Int):=by
  induction k generalizing v i with
  | zero => omega
  | succ k ih =>
    cases i with
    | zero => simp [encL]
    | succ i =>
      have:=ih (v / 256) i (by omega)
      simp only [encL,List.getD_cons_succ,this]
      rw [Nat.div_div_eq_div_mul,Nat.pow_succ,Nat.mul_comm]

theorem val_encL (k v:Nat):val (encL k v)=v % 256 ^ k:=by
  induction k generalizing v with
  | zero => simp [encL, val, Nat.mod_one]
  | succ k ih =>
    simp only [encL,val,ih,Int.toNat_natCast]
    rw [Nat.pow_succ,Nat.mul_comm (256 ^ k) 256,Nat.mod_mul]

theorem encL_val (zs:List Int) (h:∀ z ∈ zs,0≤z∧z≤255):encL zs.length (val zs)=zs:=by
  induction zs with
  | nil => rfl
  | cons z r ih =>
    have hz:=h z (by simp)
    have hr:=ih (fun y hy=>h y (by simp [hy]))
    simp only [List.length_cons,encL,val]
    rw [show (z.toNat+256 * val r) % 256=z.toNat from by omega,show (z.toNat+256 * val r) / 256=val r from by omega,hr]
    congr 1
    omega

theorem val_lt (zs:List Int) (h:∀ z ∈ zs,0≤z∧z≤255):val zs<256 ^ zs.length:=by
  induction zs with
  | nil => simp [val]
  | cons z r ih =>
    have hz:=h z (by simp)
    have hr:=ih (fun y hy=>h y (by simp [hy]))
    simp only [List.length_cons,val,Nat.pow_succ]
    omega

theorem encL_mod (k v:Nat):encL k (v % 256 ^ k)=encL k v:=by
  have:=encL_val (encL k v) (encL_rng k v)
  rwa [encL_len,val_encL] at this

theorem encL_append (k v:Nat):encL (k+1) v=encL k v++[((v / 256 ^ k % 256:Nat):Int)]:=by
  induction k generalizing v with
  | zero => simp [encL]
  | succ k ih =>
    rw [encL,ih (v / 256)]
    simp only [encL,List.cons_append]
    rw [Nat.div_div_eq_div_mul,Nat.pow_succ,Nat.mul_comm (256 ^ k) 256]

theorem pow256 (k:Nat):256 ^ k=2 ^ (8 * k):=by
  rw [Nat.pow_mul]

theorem enc_bit (n v p:Nat) (hp:p<n):(((enc n v).getD (p / 8) 0).toNat / 2 ^ (p % 8)) % 2=v / 2 ^ p % 2:=by
  rw [enc,encL_get _ _ _ (by omega),Int.toNat_natCast,pow256]
  have h1:v / 2 ^ p=v / 2 ^ (8 * (p / 8)) / 2 ^ (p % 8):=by
    rw [Nat.div_div_eq_div_mul,← Nat.pow_add]
    congr 2
    omega
  rw [h1]
  generalize v / 2 ^ (8 * (p / 8))=u
  have hq:p % 8<8:=Nat.mod_lt _ (by omega)
  generalize p % 8=q at hq
  have h256:256=2 ^ q * 2 ^ (8 - q):=by rw [← Nat.pow_add,show q+(8 - q)=8 from by omega]
  rw [h256,Nat.mod_mul_right_div_self]
  obtain ⟨r,hr⟩:∃ r,8 - q=r+1:=⟨7 - q,by omega⟩
  rw [hr,Nat.pow_succ,Nat.mul_comm (2 ^ r) 2,Nat.mod_mul_right_mod]

theorem enc_step (n v s c:Nat) (hv:v<2 ^ n) (hc:c<2 ^ s) (hs:0<s) (h8:n % 8+s≤8) :
    enc (n+s) (v+c * 2 ^ n)=(if n % 8=0 then enc n v++[0] else enc n v).set (n / 8) (((v / 256 ^ (n / 8)+c * 2 ^ (n % 8):Nat):Int)):=by
  have hk:(n+s+7) / 8=n / 8+1:=by omega
  have hpow:2 ^ n=256 ^ (n / 8) * 2 ^ (n % 8):=by
    rw [pow256,← Nat.pow_add,show 8 * (n / 8)+n % 8=n from by omega]
  have hlow:encL (n / 8) (v+c * 2 ^ n)=encL (n / 8) v:=by
    rw [← encL_mod,hpow,Nat.mul_left_comm,Nat.add_mul_mod_self_left,encL_mod]
  have hdiv:(v+c * 2 ^ n) / 256 ^ (n / 8)=v / 256 ^ (n / 8)+c * 2 ^ (n % 8):=by
    rw [hpow,Nat.mul_left_comm,Nat.add_mul_div_left _ _ (Nat.pow_pos (by omega))]
  have hvd:v / 256 ^ (n / 8)<2 ^ (n % 8):=by
    rw [Nat.div_lt_iff_lt_mul (Nat.pow_pos (by omega)),Nat.mul_comm,← hpow];exact hv
  have hlt:v / 256 ^ (n / 8)+c * 2 ^ (n % 8)<256:=by
    have h1:(c+1) * 2 ^ (n % 8)≤2 ^ s * 2 ^ (n % 8):=Nat.mul_le_mul_right _ hc
    have h2:2 ^ s * 2 ^ (n % 8)≤256:=by
      rw [← Nat.pow_add]
      have h3:2 ^ (s+n % 8)≤2 ^ 8:=Nat.pow_le_pow_right (by omega) (by omega)
      omega
    rw [Nat.add_mul,Nat.one_mul] at h1
    omega
  unfold enc
  rw [hk,encL_append,hlow,hdiv,Nat.mod_eq_of_lt hlt]
  by_cases h0:n % 8=0
  · rw [if_pos h0,show (n+7) / 8=n / 8 from by omega]
    rw [List.set_append_right _ _ (by rw [encL_len];exact Nat.le_refl _),encL_len]
    simp
  · rw [if_neg h0,show (n+7) / 8=n / 8+1 from by omega,encL_append]
    rw [List.set_append_right _ _ (by rw [encL_len];exact Nat.le_refl _),encL_len]
    simp

theorem enc_last (n v:Nat) (hv:v<2 ^ n) (h:n % 8≠0):(enc n v).getD (n / 8) 0=((v / 256 ^ (n / 8):Nat):Int):=by
  have hpow:2 ^ n=256 ^ (n / 8) * 2 ^ (n % 8):=by
    rw [pow256,← Nat.pow_add,show 8 * (n / 8)+n % 8=n from by omega]
  have hvd:v / 256 ^ (n / 8)<2 ^ (n % 8):=by
    rw [Nat.div_lt_iff_lt_mul (Nat.pow_pos (by omega)),Nat.mul_comm,← hpow];exact hv
  have h256:2 ^ (n % 8)≤2 ^ 8:=Nat.pow_le_pow_right (by omega) (by omega)
  rw [enc,encL_get _ _ _ (by omega),Nat.mod_eq_of_lt (by omega)]

theorem enc_top (n v:Nat) (hv:v<2 ^ n):v / 256 ^ (n / 8)<2 ^ (n % 8):=by
  have hpow:2 ^ n=256 ^ (n / 8) * 2 ^ (n % 8):=by
    rw [pow256,← Nat.pow_add,show 8 * (n / 8)+n % 8=n from by omega]
  rw [Nat.div_lt_iff_lt_mul (Nat.pow_pos (by omega)),Nat.mul_comm,← hpow];exact hv

theorem val_bits (n:Nat) (zs:List Int) (h:∀ z ∈ zs,0≤z∧z≤255) (hl:zs.length=(n+7) / 8) (ht:n % 8=0∨(zs.getD (zs.length - 1) 0).toNat<2 ^ (n % 8)) :
    val zs<2 ^ n∧zs=enc n (val zs):=by
  have he:=encL_val zs h
  have hv:=val_lt zs h
  refine ⟨?_,by rw [enc,← hl,he]⟩
  by_cases h0:n % 8=0
  · rw [hl,pow256,show 8 * ((n+7) / 8)=n from by omega] at hv
    exact hv
  · have ht':=ht.resolve_left h0
    have hk:zs.length=n / 8+1:=by omega
    have hlast:zs.getD (zs.length - 1) 0=((val zs / 256 ^ (n / 8) % 256:Nat):Int):=by
      have:=encL_get zs.length (val zs) (n / 8) (by omega)
      rw [he] at this
      rw [show zs.length - 1=n / 8 from by omega]
      exact this
    rw [hlast,Int.toNat_natCast] at ht'
    have h256:val zs / 256 ^ (n / 8)<256:=by
      rw [Nat.div_lt_iff_lt_mul (Nat.pow_pos (by omega)),← Nat.pow_succ',show (n / 8).succ=zs.length from hk.symm];exact hv
    rw [Nat.mod_eq_of_lt h256,Nat.div_lt_iff_lt_mul (Nat.pow_pos (by omega)),pow256,← Nat.pow_add] at ht'
    rw [show n % 8+8 * (n / 8)=n from by omega] at ht'
    exact ht'

theorem put_lt (n v s c:Nat) (hv:v<2 ^ n) (hc:c<2 ^ s):v+c * 2 ^ n<2 ^ (n+s):=by
  have h1:(c+1) * 2 ^ n≤2 ^ s * 2 ^ n:=Nat.mul_le_mul_right _ hc
  rw [Nat.add_mul,Nat.one_mul,← Nat.pow_add,Nat.add_comm s n] at h1
  omega

theorem put_part (n v x i s:Nat):v+(x % 2 ^ i) * 2 ^ n+(x / 2 ^ i % 2 ^ s) * 2 ^ (n+i)=v+(x % 2 ^ (i+s)) * 2 ^ n:=by
  have h:x % 2 ^ (i+s)=x % 2 ^ i+2 ^ i * (x / 2 ^ i % 2 ^ s):=by rw [Nat.pow_add,Nat.mod_mul]
  rw [h,Nat.add_mul,Nat.pow_add,Nat.add_assoc]
  congr 2
  rw [Nat.mul_comm (2 ^ i),Nat.mul_assoc,Nat.mul_comm (2 ^ i)]

theorem get_up (v at' i:Nat):v / 2 ^ at' % 2 ^ (i+1)=v / 2 ^ at' % 2 ^ i+(v / 2 ^ (at'+i) % 2) * 2 ^ i:=by
  rw [Nat.pow_add 2 i 1,Nat.mod_mul,Nat.pow_one,Nat.div_div_eq_div_mul,← Nat.pow_add,Nat.mul_comm (2 ^ i)]

theorem get_down (v at' i:Nat):v / 2 ^ at' % 2 ^ (i+1)=2 * (v / 2 ^ (at'+1) % 2 ^ i)+v / 2 ^ at' % 2:=by
  rw [Nat.pow_succ,Nat.mul_comm (2 ^ i) 2,Nat.mod_mul,Nat.div_div_eq_div_mul,← Nat.pow_succ,Nat.add_comm]

end Go.Proofs.YtiabhcfcpkkhoaaGreatDoor
