/- Lemmas on the way. -/
import Derived.Test.YtaibkchbkedjnaaGreatDoorIParts
import Derived.Test.YtaibkchbkedjnaaGreatDoorPut1
import Derived.Test.YtaibkchbkedjnaaGreatDoorLGetM
import Derived.Test.YtaibkchbkedjnaaGreatDoorPlP
import Derived.Test.YtaibkchbkedjnaaGreatDoorOpen1
import Derived.BigQuiet
set_option maxRecDepth 20000
set_option maxHeartbeats 16000000
namespace Go.Proofs.YtaibkchbkedjnaaGreatDoor
open Go.RowKit
set_option linter.unusedVariables false
structure Ans (w W:World):Prop where
 r0:W.cell? ⟨w.heap.size,0,none⟩=some (.slice none 0 0)
 r1:W.cell? ⟨w.heap.size,1,none⟩=some (.int .i64 0)
 f0:W.frozen? ⟨w.heap.size,0,none⟩=false
 f1:W.frozen? ⟨w.heap.size,1,none⟩=false
 lt:w.heap.size<W.heap.size
 bel:Below w.heap.size w W
theorem Ans.new (w:World):Ans w (w.alloc (Obj.cells #[.slice none 0 0,.int .i64 0] 155)):=⟨by simp,by simp,by simp,by simp,by simp,(Below.refl _ _).alloc nl _⟩
theorem Ans.step {w W W':World} {B:Nat} (h:Ans w W) (hb:Below B W W') (hB:w.heap.size<B):Ans w W':=
 ⟨keep hb hB h.r0,keep hb hB h.r1,(hb.frozen (p:=⟨w.heap.size,0,none⟩) hB).trans h.f0,(hb.frozen (p:=⟨w.heap.size,1,none⟩) hB).trans h.f1,Nat.lt_of_lt_of_le h.lt hb.size,h.bel.trans (hb.mono (Nat.le_of_lt hB))⟩
set_option linter.unusedSimpArgs false
structure SentT (w:World):Prop where
 over:∃ pe,w.cell? ⟨18,0,none⟩=some (.iface 326 (.pointer (some pe)))
 full:∃ T x,w.cell? ⟨28,0,none⟩=some (.iface T x)
 lt:18<w.heap.size∧28<w.heap.size
theorem RD.store {w:World} {B R:Nat} {a:Option Addr} {L cap n p:Nat} (h:RD w B R a L cap n p) (q:Nat):RD (w.setCell ⟨R,2,none⟩ (.int .i64 (q:Nat))) B R a L cap n q:=
 ⟨by rw [heap_setCell_same _ R 2 _ _ _ h.1];simp,h.2.1,by simpa using h.2.2⟩
theorem take_yes (Q B:Nat) (a:Option Addr) (cap:Nat) (zs:List Int) (n V p k:Nat) (w:World) (hR:RD w B Q a zs.length cap n p) (hb:Byt w a zs) (hz:zs=enc n V) (hn:n≤4096) (hp:p+k≤n) (hS:SentT w) :
  Calls Tryz.prog 226 #[.pointer (some ⟨Q,0,none⟩),.int .i64 k] w fun e w'=>
   ∃ a' cp,e=.returned (.tuple #[.agg #[.slice a' (enc k (bt V p k)).length cp,.int .i64 k],.nilIface])∧Mine w' w.heap.size w'.heap.size a' cp (enc k (bt V p k))∧RD w' B Q a zs.length cap n (p+k)∧Only (fun b=>b=Q) w w':=by
 obtain ⟨pe,g0⟩:=hS.over
 obtain ⟨T1,x1,g1⟩:=hS.full
 have hQl:Q<w.heap.size:=(Array.getElem?_eq_some_iff.1 hR.1).1
 have HA:Hid (RD w B Q a zs.length cap n p∧Byt w a zs∧zs=enc n V∧SentT w∧w.cell? ⟨18,0,none⟩=some (.iface 326 (.pointer (some pe)))∧w.cell? ⟨28,0,none⟩=some (.iface T1 x1)):=⟨hR,hb,hz,hS,g0,g1⟩
 clear hb hz hS g0 g1
 have HAN:=Ans.new w
 have hR1:=hR.only ((Only.refl (fun _=>False) w).alloc (Obj.cells #[.slice none 0 0,.int .i64 0] 155)) (by simp)
 go_enter Tryz.func226,Tryz.ntmps226
 go_wp2_with fail
 refine (hR1.left (by omega) (by omega)).mono ?_
 rintro e w1 ⟨rfl,m1,rfl⟩
 have HAN1:Hid _:=HAN.step (below_drewN (Below.refl _ _) m1) HAN.lt
 have HR1:Hid (RD ((w.alloc (Obj.cells #[.slice none 0 0,.int .i64 0] 155)).drewN m1) B Q a zs.length cap n p):=hR1.only ((Only.refl (fun _=>False) _).drewN m1) (by simp)
 clear HAN hR1
 generalize (w.alloc (Obj.cells #[.slice none 0 0,.int .i64 0] 155)).drewN m1=W1 at *
 go_wp2_with fail
 refine (newWriter_any none 0 [] 0 4096 W1 ⟨by simp,by simp⟩ (by simp)).mono ?_
 rintro e w3 ⟨R,g,rfl,hRw,hown,hRge,hb3⟩
 have hRlt:R<w3.heap.size:=(Array.getElem?_eq_some_iff.1 hRw).1
 have hWlt:w.heap.size<W1.heap.size:=HAN1.out.lt
 have HAN3:Hid _:=HAN1.out.step hb3 HAN1.out.lt
 have hR3:RD w3 B Q a zs.length cap n p:=HR1.out.only (Only.ofBelow (S:=fun _=>False) hb3 nl) (by simp)
 have HW3:Hid _:=(⟨hRw,hown,hRge,hb3,hR3⟩:_∧_∧_∧_∧_)
 have c0:=cellRR (j:=0) hR3.1 rfl
 have c1:=cellRR (j:=1) hR3.1 rfl
 have c2:=cellRR (j:=2) hR3.1 rfl
 clear hRw hown hRge hb3 hR3 HAN1 HR1 hR
 go_wp2
 go_region
 go_wp2_with fail
 have hO4:Only (fun _=>False) w3 (w3.alloc (Obj.cells #[.slice a zs.length cap,.int .i64 ((p:Int)+(k:Int)),.int .i64 (p:Int)] 261)).drew:=((Only.refl (fun _=>False) w3).alloc _).drew
 have hQ4:(w3.alloc (Obj.cells #[.slice a zs.length cap,.int .i64 ((p:Int)+(k:Int)),.int .i64 (p:Int)] 261)).drew.heap[w3.heap.size]?=some (.cells #[.slice a zs.length cap,.int .i64 ((p+k:Nat):Int),.int .i64 (p:Nat)] 261 (0,0)):=heap_alloc_new w3 _
 generalize (w3.alloc (Obj.cells #[.slice a zs.length cap,.int .i64 ((p:Int)+(k:Int)),.int .i64 (p:Int)] 261)).drew=W4 at *
 have hb4:Below w3.heap.size w3 W4:=hO4.below nl (by simp)
 have hA4:=HAN3.out.step hb4 HAN3.out.lt
 have hRD4:RD W4 B Q a zs.length cap n p:=HW3.out.2.2.2.2.only hO4 (by simp)
 have hv4:OwnV W4 W1.heap.size (.slice (some ⟨g,0,none⟩) 0 0) (enc 0 0):=OwnV.only (S:=fun _=>False) HW3.out.2.1.v hO4 (by simp)
 have hRw4:=(hb4.block R hRlt).trans HW3.out.1
 have z34:=hb4.size
 have z13:=HW3.out.2.2.2.1.size
 have hSL:=HA.out.2.2.2.1.lt
 refine (pour_any R W1.heap.size w3.heap.size _ a cap zs 0 0 (p+k) n V p T1 pe x1 W4 hRw4 hv4 (by simp) (by omega) hQ4 (HA.out.2.1.below hA4.bel nl) HA.out.2.2.1 (by omega) (by omega) hn (by omega) HW3.out.2.2.1 z13 (by omega) ?_ (keep hA4.bel hSL.1 HA.out.2.2.2.2.1) (keep hA4.bel hSL.2 HA.out.2.2.2.2.2)).mono ?_
 ·intro hpz x hx
  obtain ⟨bb,off,he,hbl,_⟩:=HA.out.2.1.2 hpz
  rw [he] at hx
  simp at hx
  rw [←hx]
  simp
  omega
 rintro e w5 ⟨hb5,hyes,-⟩
 obtain ⟨rfl,v',hR5,hv5⟩:=hyes (by omega)
 rw [Nat.add_sub_cancel_left,Nat.zero_add,Nat.zero_add,Nat.pow_zero,Nat.mul_one] at hv5
 rw [Nat.add_sub_cancel_left,Nat.zero_add] at hR5
 have hv5':OwnV w5 W1.heap.size v' (enc k (bt V p k)):=hv5
 have hA5:=hA4.step hb5 hWlt
 have hRD5:RD w5 B Q a zs.length cap n p:=⟨(hb5.block Q (by omega)).trans hRD4.1,hRD4.2.1,Nat.le_trans hRD4.2.2 hb5.size⟩
 obtain ⟨a',cp,rfl,hmine⟩:=hv5'.mine
 have x0:=hA5.r0
 have x1:=hA5.r1
 have y0:=hA5.f0
 have y1:=hA5.f1
 generalize hES:enc k (bt V p k)=es at *
 have d0:w5.cell? ⟨R,0,none⟩=some (.slice a' es.length cp):=cellR (j:=0) hR5 rfl
 have d1:w5.cell? ⟨R,1,none⟩=some (.int .i64 (k:Nat)):=cellR (j:=1) hR5 rfl
 have c2':w5.cell? ⟨Q,2,none⟩=some (.int .i64 (p:Nat)):=cellRR (j:=2) hRD5.1 rfl
 have f2:=hRD5.frz 2
 have HF:Hid (Mine w5 W1.heap.size w5.heap.size a' cp es∧RD w5 B Q a zs.length cap n p∧Below w.heap.size w w5):=⟨hmine,hRD5,hA5.bel⟩
 have hRQ:R≠Q:=by have:=HW3.out.2.2.1;omega
 have hRs:w.heap.size≤R:=by have:=HW3.out.2.2.1;omega
 clear hmine hRD5 hA5 hv5 hv5' hR5 hyes hb5 hRw4 hv4 hRD4 hA4 hb4 hQ4 hO4 c0 c1 c2 HW3 HAN3 HA
 have HES:Hid (enc k (bt V p k)=es):=hES
 clear hES
 go_wp2
 refine bodyPost_ret (v:=.tuple #[.agg #[.slice a' es.length cp,.int .i64 (k:Nat)],.nilIface]) (by simp [results,Tryz.results226,go_sem,x0,x1]) rfl ⟨a',cp,by rw [HES.out],?_,?_,?_⟩
 ·rw [HES.out]
  have hO3:Only (fun b=>b=Q∨b=w.heap.size) w5 (((w5.setCell ⟨Q,2,none⟩ (.int .i64 ((p:Int)+(k:Int)))).setCell ⟨w.heap.size,0,none⟩ (.slice a' es.length cp)).setCell ⟨w.heap.size,1,none⟩ (.int .i64 (k:Nat))):=
   Only.setCell (Only.setCell (Only.setCell (Only.refl (fun b=>b=Q∨b=w.heap.size) w5) (p:=⟨Q,2,none⟩) (.inl (.inl rfl)) _) (p:=⟨w.heap.size,0,none⟩) (.inl (.inr rfl)) _) (p:=⟨w.heap.size,1,none⟩) (.inl (.inr rfl)) _
  exact ((HF.out.1.only hO3 (fun b h1 _=>by omega)).mono (by omega) (by simp [World.setCell]))
 ·have h1:=HF.out.2.1.store (p+k)
  have hO4:Only (fun b=>b=w.heap.size) (w5.setCell ⟨Q,2,none⟩ (.int .i64 ((p+k:Nat):Int))) (((w5.setCell ⟨Q,2,none⟩ (.int .i64 ((p+k:Nat):Int))).setCell ⟨w.heap.size,0,none⟩ (.slice a' es.length cp)).setCell ⟨w.heap.size,1,none⟩ (.int .i64 (k:Nat))):=
   Only.setCell (Only.setCell (Only.refl (fun b=>b=w.heap.size) _) (p:=⟨w.heap.size,0,none⟩) (.inl rfl) _) (p:=⟨w.heap.size,1,none⟩) (.inl rfl) _
  exact RD.only h1 hO4 (by omega)
 ·have h0:Only (fun b=>b=Q) w w5:=Only.ofBelow HF.out.2.2 nl
  exact Only.setCell (Only.setCell (Only.setCell h0 (p:=⟨Q,2,none⟩) (.inl rfl) _) (p:=⟨w.heap.size,0,none⟩) (.inr nl) _) (p:=⟨w.heap.size,1,none⟩) (.inr nl) _
theorem take_no (Q B:Nat) (a:Option Addr) (L cap n p k:Nat) (w:World) (hR:RD w B Q a L cap n p) (hn:n≤4096) (hp:p≤n) (hk:k≤8388608) (hpk:n<p+k) (hS:SentT w) :
  Calls Tryz.prog 226 #[.pointer (some ⟨Q,0,none⟩),.int .i64 k] w fun e w'=>
   ∃ T x,e=.returned (.tuple #[.agg #[.slice none 0 0,.int .i64 0],.iface T x])∧Below w.heap.size w w':=by
 obtain ⟨pe,g0⟩:=hS.over
 have HAN:=Ans.new w
 have hR1:=hR.only ((Only.refl (fun _=>False) w).alloc (Obj.cells #[.slice none 0 0,.int .i64 0] 155)) (by simp)
 have hSL:=hS.lt
 clear hS
 go_enter Tryz.func226,Tryz.ntmps226
 go_wp2_with fail
 refine (hR1.left (by omega) (by omega)).mono ?_
 rintro e w1 ⟨rfl,m1,rfl⟩
 have hA1:=HAN.step (below_drewN (Below.refl _ _) m1) HAN.lt
 clear HAN hR1 hR
 generalize (w.alloc (Obj.cells #[.slice none 0 0,.int .i64 0] 155)).drewN m1=W1 at *
 have g1:=keep hA1.bel hSL.1 g0
 have x0:=hA1.r0
 have x1:=hA1.r1
 have y0:=hA1.f0
 have y1:=hA1.f1
 have HB:Hid (Below w.heap.size w W1):=hA1.bel
 have hgl:18<w.heap.size:=hSL.1
 clear hA1 g0 hSL
 go_wp2
 go_region
 go_wp2
 refine bodyPost_ret (v:=.tuple #[.agg #[.slice none 0 0,.int .i64 0],.iface 326 (.pointer (some pe))]) (by simp [results,Tryz.results226,go_sem,x0,x1]) rfl ⟨_,_,rfl,?_⟩
 have hbb:=HB.out
 repeat (first | exact hbb | refine Below.setCell ?_ (by simp) _ | refine below_drewN ?_ _ | refine below_drew' ?_)
def OVI (w:World) (B:Nat) (v:Value) (zs:List Int):Prop:=w.ownsRow B 3 1 v zs.length (zs.map (Value.int .i64))∧∀ z ∈ zs,-9223372036854775808≤z∧z≤9223372036854775807
theorem OVI.nil (w:World) (B:Nat):OVI w B (.slice none 0 0) []:=⟨⟨rfl,.inl ⟨rfl,rfl⟩⟩,by simp⟩
theorem OVI.form {w:World} {B:Nat} {v:Value} {zs:List Int} (h:OVI w B v zs):∃ (a:Option Addr) (c:Nat),v=.slice a zs.length c:=by
 rcases h.1.2 with ⟨rfl,h0⟩ | ⟨g,cap,cur,rfl,_⟩
 ·exact ⟨none,0,by rw [h0]⟩
 ·exact ⟨_,_,rfl⟩
theorem OVI.blk {w:World} {B:Nat} {v:Value} {zs:List Int} (h:OVI w B v zs) {k:Nat} (hk:v.ownBlock=some k):B≤k:=by
 rcases h.1.2 with ⟨rfl,h0⟩ | ⟨g,cap,cur,rfl,hg,_⟩
 ·simp [Value.ownBlock] at hk
 ·simp [Value.ownBlock] at hk
  omega
theorem OVI.mine {w:World} {B:Nat} {v:Value} {zs:List Int} (h:OVI w B v zs):∃ (a:Option Addr) (cp:Nat),v=.slice a zs.length cp∧MinI w B w.heap.size a cp zs:=by
 rcases h.1.2 with ⟨rfl,h0⟩ | ⟨g,cap,cur,rfl,hg,hh,r⟩
 ·exact ⟨none,0,by rw [h0],.inl ⟨rfl,List.eq_nil_of_length_eq_zero h0,rfl⟩⟩
 ·exact ⟨some ⟨g,0,none⟩,cap,rfl,OwI.mine (cap:=cap) h⟩
theorem OVI.app {w1:World} {B g cap n:Nat} {zs:List Int} {x:Int} (hl:zs.length=n) (hr:∀ z ∈ zs,-9223372036854775808≤z∧z≤9223372036854775807) (hx:-9223372036854775808≤x∧x≤9223372036854775807)
  (hown:w1.ownsRow B 3 1 (.slice (some ⟨g,0,none⟩) (n+1) cap) (n+1) (zs.map (Value.int .i64)++[.int .i64 x])):OVI w1 B (.slice (some ⟨g,0,none⟩) (n+1) cap) (zs++[x]):=by
 refine ⟨?_,?_⟩
 ·have e:(zs++[x]).length=n+1:=by simp [hl]
  rw [e]
  simpa using hown
 ·intro z hz
  simp only [List.mem_append,List.mem_singleton] at hz
  rcases hz with hz | rfl
  ·exact hr z hz
  ·exact hx
theorem app_below {w0 wr w1:World} {B:Nat} {o:Obj} {v:Value} {zs:List Int} (hbel:Below B w0 wr) (hB:B≤wr.heap.size) (h:OVI wr B v zs) (hg:(wr.alloc o).grownBy w1 v.ownBlock):Below B w0 w1:=
 (hbel.alloc hB o).grown hg (by simp;omega) (fun k hk=>h.blk hk)
theorem OVI.only {S:Nat→Prop} {w w':World} {B:Nat} {v:Value} {zs:List Int} (h:OVI w B v zs) (ho:Only S w w') (hs:∀ k,B≤k→¬S k):OVI w' B v zs:=by
 refine ⟨⟨h.1.1,?_⟩,h.2⟩
 rcases h.1.2 with h' | ⟨g,cap,cur,h',hg,hh,r⟩
 ·exact .inl h'
 ·exact .inr ⟨g,cap,cur,h',hg,(ho.block g (Array.getElem?_eq_some_iff.1 hh).1 (hs g hg)).trans hh,r⟩
theorem zeros_list (m:Nat):Builtin.zeroCells (Value.int .i64 0).cells m=((List.replicate m (0:Int)).map (Value.int .i64)).toArray:=by
 apply Array.ext'
 simp only [Builtin.zeroCells,Value.cells,Array.toList_map,Array.toList_range,List.map_replicate]
 rw [List.eq_replicate_iff]
 refine ⟨by simp,fun b hb=>?_⟩
 simp only [List.mem_map] at hb
 obtain ⟨i,_,rfl⟩:=hb
 simp [Nat.mod_one]
theorem run_append_zer {P:Program} (w:World) (base:Nat) (t tn ty e:TypeId) (i:TypeInfo) (k kn:IntKind) (ht:P.underlying t=some (.slice e)) (htn:P.underlying tn=some (.int kn)) (hi:P.info? e=some i) (hz:i.zero=some (.int .i64 0))
  (hsize:i.size=1) (hby:i.bytes≤8) (v:Value) (n:Nat) (hn:0<n) (xs:List Value) (hown:w.ownsRow base e 1 v n xs) (m:Nat) (hnm:n+m≤1000000) (hbase:base≤w.heap.size) :
  ∃ v' w',(Builtin.append_ #[t,tn] ty #[v,.int k m]).run P w=.ok v' w'∧w'.ownsRow base e 1 v' (n+m) (xs++(List.replicate m (0:Int)).map (Value.int .i64))∧w.grownBy w' v.ownBlock:=by
 have hl:((List.replicate m (0:Int)).map (Value.int .i64)).length=m:=by simp
 have hZ:=zeros_list m
 have h1:∀ u ∈ (List.replicate m (0:Int)).map (Value.int .i64),u.oneCell'=true:=by
  intro u hu
  simp only [List.mem_map] at hu
  obtain ⟨z,_,rfl⟩:=hu
  rfl
 generalize (List.replicate m (0:Int)).map (Value.int .i64)=news at *
 have hlen:(xs++news).length=n+m:=by rw [List.length_append,hown.1,hl];omega
 have hw:IntKind.i64.wrap (m:Int)=m:=by rw [IntKind.wrap_i64];omega
 have hneg:¬((m:Int)<0):=by omega
 have hmb:m*i.bytes≤m*8:=Nat.mul_le_mul_left _ hby
 have h48i:¬(281474976710656<(m:Int)*(i.bytes:Int)):=by
  rw [←Int.natCast_mul]
  omega
 rcases hown.2 with ⟨rfl,rfl⟩ | ⟨g,cap,cur,rfl,hbg,hg,hnc,hcm,hcs,htake⟩
 ·omega
 ·by_cases hroom:n+m≤cap
  ·have hst:=run_storeCells_at P g n e news 0 cur w hg (by simp [hl];omega) h1
   simp only [Nat.add_zero] at hst
   have hr:(Builtin.append_ #[t,tn] ty #[.slice (some ⟨g,0,none⟩) n cap,.int k m]).run P w=.ok (.slice (some ⟨g,0,none⟩) (n+m) cap) (w.setRow g (cur.toList.take n++news++cur.toList.drop (n+news.length)).toArray):=by
    by_cases hm0:m=0
    ·subst hm0
     have hn0:news=[]:=List.eq_nil_of_length_eq_zero hl
     subst hn0
     have hw0:IntKind.i64.wrap 0=0:=by decide
     simp [Addr.add_lit] at hst
     simp [Builtin.append_,run_underlying ht,run_underlying htn,sizeOf,typeInfo,zeroValue,hi,hz,hsize,asInt,asIntOf,hw0,Addr.add_lit,hnc,hst]
    ·simp [Builtin.append_,run_underlying ht,run_underlying htn,sizeOf,typeInfo,zeroValue,hi,hz,hsize,asInt,asIntOf,hw,hneg,h48i,hroom,hm0,hZ,Addr.add_lit,hst]
   refine ⟨_,_,hr,⟨by rw [hlen,Nat.mul_one],.inr ⟨g,cap,_,rfl,hbg,setRow_heap w g cur _ e _ hg,hroom,hcm,?_,?_⟩⟩,⟨rfl,rfl,rfl,by simp,fun k _ hk=>setRow_other w g k _ (fun e=>hk (by simp [Value.ownBlock,e]))⟩⟩
   ·simp only [List.size_toArray,List.length_append,List.length_take,List.length_drop,Array.length_toList]
    omega
   ·rw [Nat.mul_one] at htake ⊢
    rw [htake,←hlen]
    exact List.take_left
  ·have holds:∀ j u,xs[j]?=some u→w.cell? ((⟨g,0,none⟩:Addr).add j)=some u:=hown.cells (g:=g) rfl
   have hm0:¬m=0:=by omega
   have h63':¬(9223372036854775807<((n:Int)+(m:Int))):=by omega
   have hfit:=growslice_fits (need:=n+m) (old:=cap) (bytes:=i.bytes) (by omega) (by have:=Nat.mul_le_mul_left (n+m) hby;omega)
   have h48':¬(281474976710656<Builtin.nextslicecap (n+m) cap*i.bytes):=by omega
   have hfo:=run_firstCells_some (P:=P) w.drew 1 n ⟨g,0,none⟩ n cap xs hown.1 (by simpa using holds)
   have hr:(Builtin.append_ #[t,tn] ty #[.slice (some ⟨g,0,none⟩) n cap,.int k m]).run P w=.ok (.slice (some ⟨w.heap.size,0,none⟩) (n+m) (grownCap w (n+m) cap e))
     (w.drew.alloc (.cells (xs.toArray++news.toArray++Builtin.zeroCells (Value.int .i64 0).cells (grownCap w (n+m) cap e-(n+m))) e)):=by
    simp [Builtin.append_,run_underlying ht,run_underlying htn,sizeOf,typeInfo,zeroValue,hi,hz,hsize,asInt,asIntOf,hw,hneg,h48i,hroom,hm0,hZ,h63',h48',Question.forced,hfo,newRow,grownCap]
    congr 2
    apply Array.ext'
    simp [List.append_assoc]
   have hge:=grownCap_ge w (n+m) cap e
   have hcm2:grownCap w (n+m) cap e≤maxLen:=grownCap_le_maxLen w (n+m) cap e (by unfold maxLen;omega)
   refine ⟨_,_,hr,⟨by rw [hlen,Nat.mul_one],.inr ⟨w.heap.size,_,_,rfl,hbase,heap_alloc_new w.drew _,hge,hcm2,?_,?_⟩⟩,⟨rfl,rfl,rfl,by simp,fun j hj _=>heap_alloc_old w.drew _ hj⟩⟩
   ·have hx:=hown.1
    simp only [Array.size_append,List.size_toArray,size_zeroCells,hl,Value.cells]
    simp
    omega
   ·rw [Nat.mul_one]
    simp only [Array.toList_append,List.append_assoc]
    rw [←List.append_assoc,←hlen]
    exact List.take_left
theorem OVI.appZ {w w':World} {B:Nat} {v v':Value} {zs:List Int} {n m:Nat} (h:OVI w B v zs) (hn:zs.length=n) (h2:w'.ownsRow B 3 1 v' (n+m) (zs.map (Value.int .i64)++(List.replicate m (0:Int)).map (Value.int .i64))):OVI w' B v' (zs++List.replicate m 0):=by
 refine ⟨?_,?_⟩
 ·rw [List.length_append,List.length_replicate,hn,List.map_append]
  exact h2
 ·intro z hz
  rcases List.mem_append.1 hz with hz | hz
  ·exact h.2 z hz
  ·have:=List.eq_of_mem_replicate hz
   omega
theorem wpList_append_zer {ops:Array Oper} {rest:List Oper} {o:Oper} {a:Act} {Q:Exit→Act→World→Prop} {w:World} (hgd:o.guard=none) (s x:Operand)
  (ho:o.op=.call { callee:=.builtin .append,args:=#[s,x],argTypes:=#[29,3] })
  (B:Nat) (v:Value) (zs:List Int) (hs:a.eval s=v) (hown:OVI w B v zs) (m:Nat) (hx:a.eval x=.int .i64 (m:Nat)) (hp:0<zs.length) (hb1:zs.length+m≤1000000) (hbase:B≤w.heap.size)
  (h:∀ v' w',OVI w' B v' (zs++List.replicate m 0)→w.grownBy w' v.ownBlock→wpList Tryz.prog ops Q rest (a.put o.dst v') w'):wpList Tryz.prog ops Q (o :: rest) a w:=by
 obtain ⟨i0,hi,hz0,hz1,hz2⟩:=info_parts Tryz.infoI64
 obtain ⟨v',w',hr,h2,h3⟩:=run_append_zer (P:=Tryz.prog) w B 29 3 o.type 3 i0 .i64 .i64 Tryz.underlying29 Tryz.underlying3 hi hz0 hz1 (by rw [hz2];omega) v zs.length hp _ hown.1 m hb1 hbase
 refine wpList_plain hgd fun K hK'=>?_
 unfold Oper.wp execOp
 simp only [ho,resolve,invoke,builtin,Sem.run_bind,Sem.run_pure,Result.andThen_ok,List.map_toArray,List.map_cons,List.map_nil,hs,hx,hr]
 exact hK' _ _ (h v' w' (hown.appZ rfl h2) h3)
theorem appI_below {w0 wr w1:World} {B:Nat} {v:Value} {zs:List Int} (hbel:Below B w0 wr) (hB:B≤wr.heap.size) (h:OVI wr B v zs) (hg:wr.grownBy w1 v.ownBlock):Below B w0 w1:=
 hbel.grown hg hB (fun k hk=>h.blk hk)
theorem OVI.blk_ne {w:World} {B:Nat} {v:Value} {zs:List Int} (h:OVI w B v zs) {Q:Nat} {cur:Array Value} {T:TypeId} (hQ:w.heap[Q]?=some (.cells cur T (0,0))) (hT:T≠3):some Q≠v.ownBlock:=by
 rcases h.1.2 with ⟨rfl,h0⟩ | ⟨g,cap,cur',rfl,hg,hh,_⟩
 ·simp [Value.ownBlock]
 ·simp only [Value.ownBlock,ne_eq,Option.some.injEq]
  rintro rfl
  rw [hQ] at hh
  simp at hh
  exact hT hh.2
theorem grown_blkI {w w':World} {row:Option Nat} (hg:w.grownBy w' row) {Q:Nat} {o:Obj} (hQ:w.heap[Q]?=some o) (hne:some Q≠row):w'.heap[Q]?=some o:=(hg.block Q (Array.getElem?_eq_some_iff.1 hQ).1 hne).trans hQ
theorem OVI.ins {w:World} {B:Nat} {a:Option Addr} {n c:Nat} {zs:List Int} (h:OVI w B (.slice a n c) zs):Ins w a zs:=by
 obtain ⟨a',c',e,hm⟩:=h.mine
 obtain ⟨rfl,-,-⟩:a=a'∧n=zs.length∧c=c':=by simpa using e
 exact hm.byt
theorem OVI.below {w w':World} {B:Nat} {v:Value} {zs:List Int} (h:OVI w B v zs) (hb:Below w.heap.size w w'):OVI w' B v zs:=h.only (Only.ofBelow (S:=fun _=>False) hb nl) (by simp)
theorem all_take_succ {p:Int→Prop} {zs:List Int} {k:Nat} (h:∀ z ∈ zs.take k,p z) (hk:k<zs.length) (hp:p (zs.getD k 0)):∀ z ∈ zs.take (k+1),p z:=by
 intro z hz
 rw [List.take_succ_eq_append_getElem hk] at hz
 rcases List.mem_append.1 hz with hz | hz
 ·exact h z hz
 ·simp at hz
  subst hz
  simpa [List.getD_eq_getElem?_getD,List.getElem?_eq_getElem hk] using hp
theorem getD_mem {zs:List Int} {k:Nat} (hk:k<zs.length):zs.getD k 0 ∈ zs:=by
 rw [List.getD_eq_getElem?_getD,List.getElem?_eq_getElem hk];exact List.getElem_mem hk
def sumF (f:Int→Int) (zs:List Int):Int:=(zs.map f).sum
theorem sumF_succ (f:Int→Int) (zs:List Int) (k:Nat) (h:k<zs.length):sumF f (zs.take (k+1))=sumF f (zs.take k)+f (zs.getD k 0):=by
 unfold sumF
 rw [List.take_succ_eq_append_getElem h,List.map_append,List.sum_append]
 simp [List.getD_eq_getElem?_getD,List.getElem?_eq_getElem h]
theorem sumF_bnd (f:Int→Int) (m:Int) (hf:∀ z,0≤f z∧f z≤m) (zs:List Int):0≤sumF f zs∧sumF f zs≤m*zs.length:=by
 unfold sumF
 induction zs with
 | nil=>simp
 | cons z zs ih=>
  have:=hf z
  simp only [List.map_cons,List.sum_cons,List.length_cons]
  rw [show m*((zs.length+1:Nat):Int)=m*zs.length+m from by rw [Int.natCast_add,Int.mul_add];simp]
  omega
def one (z:Int):Int:=if 0<z then 1 else 0
theorem one_bnd (z:Int):0≤one z∧one z≤1:=by unfold one;split <;> omega
def share (z:Int):Int:=if 0<z then 2 ^ (12-z).toNat else 0
theorem pow_bnd (n:Nat) (h:n≤12):(1:Int)≤2 ^ n∧(2:Int) ^ n≤4096:=by
 have h1:1≤2 ^ n:=Nat.pow_pos (by omega)
 have h2:2 ^ n≤2 ^ 12:=Nat.pow_le_pow_right (by omega) h
 have e:((2:Int) ^ n)=((2 ^ n:Nat):Int):=by simp
 rw [e]
 omega
theorem share_bnd (z:Int):0≤share z∧share z≤4096:=by
 unfold share
 split
 ·have:=pow_bnd (12-z).toNat (by omega);omega
 ·omega
theorem wrapPow (n:Nat) (h:n≤12):wrap64 (2 ^ n)=2 ^ n:=by
 have:=pow_bnd n h
 generalize (2:Int) ^ n=y at *
 exact IntWalk.wrap64_in _ (by omega)
def lensB (zs:List Int):Bool:=decide (1≤zs.length∧zs.length≤80∧(∀ z ∈ zs,0≤z∧z≤12)∧(sumF one zs=1∧sumF share zs=2048∨1<sumF one zs∧sumF share zs=4096))
theorem lensB_bad {zs:List Int} {k:Nat} (hk:k<zs.length) (h:¬(0≤zs.getD k 0∧zs.getD k 0≤12)):lensB zs=false:=by
 simp only [lensB,decide_eq_false_iff_not]
 exact fun h'=>h (h'.2.2.1 _ (getD_mem hk))
theorem lensB_len {zs:List Int} (h:¬(1≤zs.length∧zs.length≤80)):lensB zs=false:=by
 simp only [lensB,decide_eq_false_iff_not]
 exact fun h'=>h ⟨h'.1,h'.2.1⟩
theorem lensB_all {zs:List Int} (h1:1≤zs.length) (h2:zs.length≤80) (h:∀ z ∈ zs.take zs.length,0≤z∧z≤12):lensB zs=decide (sumF one zs=1∧sumF share zs=2048∨1<sumF one zs∧sumF share zs=4096):=by
 rw [List.take_length] at h
 simp only [lensB]
 apply decide_eq_decide.2
 exact ⟨fun h'=>h'.2.2.2,fun h'=>⟨h1,h2,h,h'⟩⟩
theorem l2full_any (a:Option Addr) (cap:Nat) (zs:List Int) (w:World) (hb:Ins w a zs) (h80:zs.length≤80) (hok:∀ z ∈ zs,0≤z∧z≤12) :
  Calls Tryz.prog 208 #[.slice a zs.length cap] w fun e w'=>e=.returned (.int .i64 (sumF share zs))∧w'=w:=by
 have HOK:Hid (∀ z ∈ zs,0≤z∧z≤12):=hok
 clear hok
 generalize hlen:zs.length=n at *
 have HL:Hid (zs.length=n):=hlen
 clear hlen
 go_enter Tryz.func208,Tryz.ntmps208
 go_wp2
 go_loop [3,4] (fun x i=>∃ k:Nat,k≤n∧i=.int .i64 k∧x=.int .i64 (sumF share (zs.take k))) (fun _ i=>n-(intOf i).toNat)
 case atStart=>exact ⟨0,Nat.zero_le _,rfl,by simp [sumF]⟩
 case round=>
  obtain ⟨k,hk,rfl,rfl⟩:=hrel
  by_cases hlt:k<n
  ·obtain ⟨b1,o1,rfl,hb1,hc1⟩:=hb.len_pos k (by rw [HL.out];exact hlt)
   have hs1:=hc1 k (by rw [HL.out];exact hlt)
   have g1:=HOK.out _ (getD_mem (k:=k) (by rw [HL.out];exact hlt))
   have hF:=sumF_bnd share 4096 share_bnd (zs.take k)
   have hF2:(zs.take k).length≤80:=by rw [List.length_take,HL.out];omega
   have HS:Hid (sumF share (zs.take (k+1))=sumF share (zs.take k)+share (zs.getD k 0)):=sumF_succ share zs k (by rw [HL.out];exact hlt)
   clear hc1 hb
   generalize zs.getD k 0=x at *
   generalize hFF:sumF share (zs.take k)=F at *
   have hFb:0≤F∧F≤327680:=by omega
   clear hF hF2 hFF
   by_cases h3:0<x
   ·have hp:=pow_bnd (12-x).toNat (by omega)
    have hw:=wrapPow (12-x).toNat (by omega)
    have HP:Hid (share x=2 ^ (12-x).toNat):=by simp [Hid,share,h3]
    have HW:Hid (wrap64 (F+2 ^ (12-x).toNat)=F+2 ^ (12-x).toNat):=IntWalk.wrap64_in _ (by omega)
    clear hp
    have HWP:Hid _:=hw
    clear hw
    go_wp2
    go_round
    case rel=>exact ⟨k+1,by omega,by go_num,by rw [HS.out,HP.out,HWP.out,HW.out]⟩
    case measure=>simp [intOf];omega
   ·have HP:Hid (share x=0):=by simp [Hid,share,h3]
    go_wp2
    go_round
    case rel=>exact ⟨k+1,by omega,by go_num,by rw [HS.out,HP.out];simp⟩
    case measure=>simp [intOf];omega
  ·have hkn:k=n:=by omega
   subst hkn
   have e:zs.take k=zs:=List.take_of_length_le (by rw [HL.out];exact Nat.le_refl _)
   rw [e]
   go_wp2
   go_ret
   exact ⟨rfl,rfl⟩
theorem lensB_ok {zs:List Int} (h:lensB zs=true):1≤zs.length∧zs.length≤80∧∀ z ∈ zs,0≤z∧z≤12:=by
 simp only [lensB,decide_eq_true_eq] at h
 exact ⟨h.1,h.2.1,h.2.2.1⟩
structure Four (w:World):Prop where
 g1:∃ T x,w.cell? ⟨23,0,none⟩=some (.iface T x)
 g2:∃ T x,w.cell? ⟨24,0,none⟩=some (.iface T x)
 g3:∃ T x,w.cell? ⟨25,0,none⟩=some (.iface T x)
 g4:∃ T x,w.cell? ⟨26,0,none⟩=some (.iface T x)
theorem someCell {w w':World} {g:Nat} (h:∃ T x,w.cell? ⟨g,0,none⟩=some (.iface T x)) (hb:Below w.heap.size w w'):∃ T x,w'.cell? ⟨g,0,none⟩=some (.iface T x):=by
 obtain ⟨T,x,h⟩:=h
 exact ⟨T,x,keep hb (World.block_lt_of_cell? _ _ h) h⟩
theorem Four.below {w w':World} (h:Four w) (hb:Below w.heap.size w w'):Four w':=⟨someCell h.g1 hb,someCell h.g2 hb,someCell h.g3 hb,someCell h.g4 hb⟩
def chk (zs:List Int) (w:World) (e:Ending) (w':World):Prop:=
 Below w.heap.size w w'∧(lensB zs=true→e=.returned .nilIface)∧(lensB zs=false→∃ p:Addr,e=.returned (.iface 297 (.pointer (some p))))
theorem checkLens_any (a:Option Addr) (cap:Nat) (zs:List Int) (w:World) (hb:Ins w a zs) (hn:zs.length≤281474976710656) (h4:Four w) :
  Calls Tryz.prog 234 #[.slice a zs.length cap] w (chk zs w):=by
 obtain ⟨T1,v1,e1⟩:=h4.g1
 obtain ⟨T2,v2,e2⟩:=h4.g2
 obtain ⟨T3,v3,e3⟩:=h4.g3
 obtain ⟨T4,v4,e4⟩:=h4.g4
 clear h4
 by_cases h:1≤zs.length∧zs.length≤80
 ·obtain ⟨h1,h2⟩:=h
  generalize hlen:zs.length=n at *
  have HL:Hid (zs.length=n):=hlen
  clear hlen
  go_enter Tryz.func234,Tryz.ntmps234
  go_wp2
  go_loop [3,4,22] (fun x y i=>∃ k:Nat,k≤n∧i=.int .i64 k∧x=.int .i64 (sumF one (zs.take k))∧y=.int .i64 (sumF share (zs.take k))∧∀ z ∈ zs.take k,0≤z∧z≤12) (fun _ _ i=>n-(intOf i).toNat)
  case atStart=>exact ⟨0,Nat.zero_le _,rfl,by simp [sumF],by simp [sumF],by simp⟩
  case round=>
   obtain ⟨k,hk,rfl,rfl,rfl,htk⟩:=hrel
   have HT:Hid (∀ z ∈ zs.take k,0≤z∧z≤12):=htk
   clear htk
   by_cases hlt:k<n
   ·obtain ⟨b1,o1,rfl,hb1,hc1⟩:=hb.len_pos k (by rw [HL.out];exact hlt)
    have hs1:=hc1 k (by rw [HL.out];exact hlt)
    have g1:=getD_rngI hb.1 k
    have hF:=sumF_bnd one 1 one_bnd (zs.take k)
    have hG:=sumF_bnd share 4096 share_bnd (zs.take k)
    have hF2:(zs.take k).length≤80:=by rw [List.length_take,HL.out];omega
    have HS:Hid (sumF one (zs.take (k+1))=sumF one (zs.take k)+one (zs.getD k 0)):=sumF_succ one zs k (by rw [HL.out];exact hlt)
    have HS2:Hid (sumF share (zs.take (k+1))=sumF share (zs.take k)+share (zs.getD k 0)):=sumF_succ share zs k (by rw [HL.out];exact hlt)
    clear hc1 hb
    generalize hx:zs.getD k 0=x at *
    have HX:Hid (zs.getD k 0=x):=hx
    clear hx
    generalize hFF:sumF one (zs.take k)=F at *
    generalize hGG:sumF share (zs.take k)=G at *
    have hFb:0≤F∧F≤80:=by omega
    have hGb:0≤G∧G≤327680:=by omega
    clear hF hG hF2 hFF hGG
    by_cases h3:0≤x
    ·by_cases h4:x≤12
     ·have HT':Hid (∀ z ∈ zs.take (k+1),0≤z∧z≤12):=all_take_succ HT.out (by rw [HL.out];exact hlt) (by rw [HX.out];exact ⟨h3,h4⟩)
      by_cases h5:0<x
      ·have HP:Hid (one x=1):=by simp [Hid,one,h5]
       have hp:=pow_bnd (12-x).toNat (by omega)
       have HWP:Hid (wrap64 (2 ^ (12-x).toNat)=2 ^ (12-x).toNat):=wrapPow (12-x).toNat (by omega)
       have HQ:Hid (share x=2 ^ (12-x).toNat):=by simp [Hid,share,h5]
       have HW:Hid (wrap64 (G+2 ^ (12-x).toNat)=G+2 ^ (12-x).toNat):=IntWalk.wrap64_in _ (by omega)
       clear hp
       go_wp2
       go_round
       case rel=>exact ⟨k+1,by omega,by go_num,by rw [HS.out,HP.out],by rw [HS2.out,HQ.out,HWP.out,HW.out],HT'.out⟩
       case measure=>simp [intOf];omega
      ·have HP:Hid (one x=0):=by simp [Hid,one,h5]
       have HQ:Hid (share x=0):=by simp [Hid,share,h5]
       go_wp2
       go_round
       case rel=>exact ⟨k+1,by omega,by go_num,by rw [HS.out,HP.out];simp,by rw [HS2.out,HQ.out];simp,HT'.out⟩
       case measure=>simp [intOf];omega
     ·have HN:Hid (lensB zs=false):=lensB_bad (by rw [HL.out];exact hlt) (by rw [HX.out];omega)
      go_wp2
      try go_region
      all_goals try go_wp2
      all_goals go_ret
      all_goals exact ⟨by repeat (first | exact Below.refl _ _ | refine Below.drew ?_ | refine Below.alloc ?_ (by simp) _),fun h=>(by rw [HN.out] at h;cases h),fun _=>⟨_,rfl⟩⟩
    ·have HN:Hid (lensB zs=false):=lensB_bad (by rw [HL.out];exact hlt) (by rw [HX.out];omega)
     go_wp2
     try go_region
     all_goals try go_wp2
     all_goals go_ret
     all_goals exact ⟨by repeat (first | exact Below.refl _ _ | refine Below.drew ?_ | refine Below.alloc ?_ (by simp) _),fun h=>(by rw [HN.out] at h;cases h),fun _=>⟨_,rfl⟩⟩
   ·have hkn:k=n:=by omega
    subst hkn
    have e:zs.take k=zs:=List.take_of_length_le (by rw [HL.out];exact Nat.le_refl _)
    have HE:Hid (lensB zs=decide (sumF one zs=1∧sumF share zs=2048∨1<sumF one zs∧sumF share zs=4096)):=lensB_all (by rw [HL.out];exact h1) (by rw [HL.out];exact h2) (by rw [HL.out];exact HT.out)
    have hF:=sumF_bnd one 1 one_bnd zs
    have hG:=sumF_bnd share 4096 share_bnd zs
    rw [HL.out] at hF hG
    rw [e]
    clear e HT
    generalize sumF one zs=F at *
    generalize sumF share zs=G at *
    by_cases c0:F=0
    ·subst c0
     have HN:Hid (lensB zs=false):=by rw [Hid,HE.out,decide_eq_false (by omega)]
     go_wp2
     try go_region
     all_goals try go_wp2
     all_goals go_ret
     all_goals exact ⟨by repeat (first | exact Below.refl _ _ | refine Below.drew ?_ | refine Below.alloc ?_ (by simp) _),fun h=>(by rw [HN.out] at h;cases h),fun _=>⟨_,rfl⟩⟩
    ·by_cases c1:F=1
     ·subst c1
      by_cases c2:G=2048
      ·subst c2
       have HN:Hid (lensB zs=true):=by rw [Hid,HE.out,decide_eq_true (by omega)]
       go_wp2
       go_ret
       exact ⟨Below.refl _ _,fun _=>rfl,fun h=>(by rw [HN.out] at h;cases h)⟩
      ·have HN:Hid (lensB zs=false):=by rw [Hid,HE.out,decide_eq_false (by omega)]
       go_wp2
       try go_region
       all_goals try go_wp2
       all_goals go_ret
       all_goals exact ⟨by repeat (first | exact Below.refl _ _ | refine Below.drew ?_ | refine Below.alloc ?_ (by simp) _),fun h=>(by rw [HN.out] at h;cases h),fun _=>⟨_,rfl⟩⟩
     ·by_cases c2:G=4096
      ·subst c2
       have HN:Hid (lensB zs=true):=by rw [Hid,HE.out,decide_eq_true (by omega)]
       go_wp2
       go_ret
       exact ⟨Below.refl _ _,fun _=>rfl,fun h=>(by rw [HN.out] at h;cases h)⟩
      ·have HN:Hid (lensB zs=false):=by rw [Hid,HE.out,decide_eq_false (by omega)]
       have c3:(G != 4096)=true:=by simp [c2]
       go_wp2
       try go_region
       all_goals try go_wp2
       all_goals go_ret
       all_goals exact ⟨by repeat (first | exact Below.refl _ _ | refine Below.drew ?_ | refine Below.alloc ?_ (by simp) _),fun h=>(by rw [HN.out] at h;cases h),fun _=>⟨_,rfl⟩⟩
 ·have HN:Hid (lensB zs=false):=lensB_len h
  by_cases c1:1≤zs.length
  ·have c2:80<zs.length:=by omega
   go_enter Tryz.func234,Tryz.ntmps234
   go_wp2
   try go_region
   all_goals try go_wp2
   all_goals go_ret
   all_goals exact ⟨by repeat (first | exact Below.refl _ _ | refine Below.drew ?_ | refine Below.alloc ?_ (by simp) _),fun h=>(by rw [HN.out] at h;cases h),fun _=>⟨_,rfl⟩⟩
  ·go_enter Tryz.func234,Tryz.ntmps234
   go_wp2
   try go_region
   all_goals try go_wp2
   all_goals go_ret
   all_goals exact ⟨by repeat (first | exact Below.refl _ _ | refine Below.drew ?_ | refine Below.alloc ?_ (by simp) _),fun h=>(by rw [HN.out] at h;cases h),fun _=>⟨_,rfl⟩⟩
def giY (n V p s:Nat) (res:List Int) (q:Nat):Prop:=gi n V s s p [] false=some (res,q)∧lensB res=true
def giR (B:Nat) (w0 w':World) (R:Nat) (a:Option Addr) (L cap n V p s:Nat) (e:Ending):Prop:=Below B w0 w' ∧
   (∀ res q,giY n V p s res q→∃ a' cp,e=.returned (.tuple #[.slice a' res.length cp,.nilIface])∧MinI w' B w'.heap.size a' cp res∧RD w' B R a L cap n q) ∧
   ((¬∃ res q,giY n V p s res q)→∃ T x v,e=.returned (.tuple #[v,.iface T x]))
theorem giR.no {B:Nat} {w0 w':World} {R:Nat} {a:Option Addr} {L cap n V p s:Nat} {v x:Value} {T:TypeId} (hb:Below B w0 w') (h:gi n V s s p [] false=none):giR B w0 w' R a L cap n V p s (.returned (.tuple #[v,.iface T x])):=
 And.intro hb (And.intro (fun res q hy=>by have:=hy.1;rw [h] at this;cases this) (fun _=>⟨_,_,_,rfl⟩))
theorem below_dL {B:Nat} {a b:World} (h:Below B a b) (n:Nat):Below B a (b.drewN n):=⟨h.os,h.tape,h.output,h.size,h.block⟩
theorem OVI.stayR {S:Nat→Prop} {w w':World} {B:Nat} {v:Value} {zs:List Int} (h:OVI w B v zs) (ho:Only S w w') (hs:∀ k,v.ownBlock=some k→¬S k):OVI w' B v zs:=by
 refine ⟨⟨h.1.1,?_⟩,h.2⟩
 rcases h.1.2 with h' | ⟨g,cap,cur,h',hg,hh,r⟩
 ·exact .inl h'
 ·exact .inr ⟨g,cap,cur,h',hg,(ho.block g (Array.getElem?_eq_some_iff.1 hh).1 (hs g (by rw [h'];rfl))).trans hh,r⟩
theorem RD.grown {w w':World} {B B' R:Nat} {a:Option Addr} {L cap n p:Nat} {v:Value} {zs:List Int} (h:RD w B R a L cap n p) (ho:OVI w B' v zs) (hg:w.grownBy w' v.ownBlock):RD w' B R a L cap n p:=
 ⟨grown_blkI hg h.1 (ho.blk_ne h.1 (by decide)),h.2.1,Nat.le_trans h.2.2 hg.size⟩
theorem RD.alloc {w:World} {B R:Nat} {a:Option Addr} {L cap n p:Nat} (h:RD w B R a L cap n p) (o:Obj):RD (w.alloc o) B R a L cap n p:=h.only (Only.ofBelow (S:=fun _=>False) ((Below.refl _ _).alloc nl o) nl) (by simp)
theorem fr_below {w0 w w':World} {B R:Nat} (h:Below B w0 w∧B≤R∧B≤w.heap.size) (ho:Only (fun k=>k=R) w w'):Below B w0 w':=h.1.trans (ho.below h.2.2 (fun k hk=>by rw [hk];exact h.2.1))
theorem fr_grown {w w1 w':World} {R:Nat} {v:Value} {zs:List Int} (ho:Only (fun k=>k=R) w w1) (h:OVI w1 w.heap.size v zs) (hg:w1.grownBy w' v.ownBlock):Only (fun k=>k=R) w w':=
 ho.grown hg (fun k hk=>.inr (h.1.lt k hk).1)
/-- With the frame: nothing but the reader is written. -/
theorem getLens_fr (R B:Nat) (a:Option Addr) (cap:Nat) (zs:List Int) (n V p s:Nat) (w0 w:World) (hb:Byt w0 a zs) (hB:w0.heap.size=B) (hbel:Below B w0 w) (hz:zs=enc n V) (hn:n≤4096) (hR:RD w B R a zs.length cap n p) (hp:p≤n) (hs:s≤80)
  (s0:Sent w0 17) (s1:Sent w0 18) (s2:Sent w0 19) (h4:Four w0) (hG:17<B∧18<B∧19<B) :
  Calls Tryz.prog 223 #[.pointer (some ⟨R,0,none⟩),.int .i64 s] w fun e w'=>giR B w0 w' R a zs.length cap n V p s e∧Only (fun k=>k=R) w w':=by
 obtain ⟨i0,hi,hz0,hz1,hz2⟩:=info_parts Tryz.infoI64
 have HZ:Hid (zs=enc n V):=hz
 have HR:Hid (RD w B R a zs.length cap n p∧Below B w0 w):=⟨hR,hbel⟩
 have HBW:Hid (Below B w0 w∧B≤R∧B≤w.heap.size):=⟨hbel,hR.2.1,hR.2.2⟩
 have HE:Hid (Sent w0 17∧Sent w0 18∧Sent w0 19∧Four w0∧w0.heap.size=B∧Byt w0 a zs):=⟨s0,s1,s2,h4,hB,hb⟩
 clear hz hR hbel s0 s1 s2 h4 hB hb
 go_enter Tryz.func223,Tryz.ntmps223
 go_wp2
 go_loopw [6,7] (fun o ev wr=>∃ (q k f:Nat) (out:List Int) (au:Option Addr) (cu:Nat) (eb:Bool),o=.slice au k cu∧ev=.bool eb∧(out.length=k∧k≤s∧q≤n)∧(s≤f+k∧gi n V s f q out eb=gi n V s s p [] false)∧OVI wr w.heap.size (.slice au k cu) out∧RD wr B R a zs.length cap n q∧Below B w0 wr∧Only (fun k=>k=R) w wr) (fun o _ _=>s-lenS o)
 case atStart=>exact ⟨p,0,s,[],none,0,false,rfl,rfl,⟨rfl,by omega,hp⟩,⟨by omega,rfl⟩,OVI.nil _ _,HR.out.1,HR.out.2,Only.refl _ _⟩
 case round=>
  clear HR
  obtain ⟨q,k,f,out,au,cu,eb,rfl,rfl,⟨hkl,hk7,hq⟩,hgi,hov,hrd,hbel,hon⟩:=hrel
  have HON:Hid (Only (fun k=>k=R) w wr):=hon
  have hszW:w.heap.size≤wr.heap.size:=hon.size
  clear hon
  have HF:Hid (out.length=k∧s≤f+k∧gi n V s f q out eb=gi n V s s p [] false):=⟨hkl,hgi⟩
  have HB:Hid (Below B w0 wr∧RD wr B R a zs.length cap n q):=⟨hbel,hrd⟩
  have HOV:Hid (OVI wr w.heap.size (.slice au k cu) out):=hov
  have hsz:B≤wr.heap.size:=by have:=hbel.size;have:=HE.out.2.2.2.2.1;omega
  clear hkl hgi hov hbel hrd
  by_cases hlt:k<s
  ·have hlt2:(k:Int)<(s:Int):=by omega
   obtain ⟨f,rfl⟩:∃ g,f=g+1:=⟨f-1,by have:=HF.out.2.1;omega⟩
   by_cases c1:q+4≤n
   ·have HC:=HB.out.2.yes V 4 (by omega) (HE.out.2.2.2.2.2.below HB.out.1 (by rw [HE.out.2.2.2.2.1];exact Nat.le_refl _)) HZ.out (by omega) (by omega) (by omega)
    go_wp2_with fail
    refine HC.mono ?_
    clear HC
    rintro e w2 ⟨rfl,hrd2,hon2,hb2⟩
    have hxe:V / 2 ^ q % 2 ^ (4:Int).toNat=bt V q 4:=rfl
    rw [hxe]
    have hx16:=bt_lt V q 4
    have HON2:Hid (Only (fun k=>k=R) w w2):=HON.out.trans hon2
    have hzW2:w.heap.size≤w2.heap.size:=HON2.out.size
    have HRD2:Hid (RD w2 B R a zs.length cap n (q+4)):=hrd2
    have HB2:Hid (Below B w0 w2):=HB.out.1.trans hb2
    have HOV2:Hid (OVI w2 w.heap.size (.slice au k cu) out):=HOV.out.stayR hon2 (fun j hj he=>HOV.out.blk_ne HB.out.2.1 (by decide) (by rw [hj,he]))
    have hz3:B≤w2.heap.size:=hrd2.2.2
    have hu:w2.ownsRow w.heap.size 3 1 (.slice au k cu) k (out.map (Value.int .i64)):=by have:=HOV2.out.1;rw [HF.out.1] at this;exact this
    have HXB:Hid (∃ x,x=bt V q 4):=⟨_,rfl⟩
    obtain ⟨x,hxx⟩:=HXB.out
    rw [←hxx] at hx16 ⊢
    have HXE:Hid (x=bt V q 4):=hxx
    clear hxx hxe hb2 hrd2 hon2 HXB HOV
    have HK8:Hid (k≤87):=by unfold Hid;omega
    by_cases hx0:x=0
    ·have hx1:((x:Int) == 0)=true:=by rw [beq_iff_eq];omega
     have HX0:Hid (x=0∧bt V q 4=0):=⟨hx0,by rw [←HXE.out];exact hx0⟩
     clear hx0
     by_cases c2:q+7≤n
     ·skip
      go_wp2_with (at_builtin;(refine wpList_append_lies _ rfl (.tmp 23) (.tmp 25) 29 rfl w.heap.size 3 i0 (.int .i64 0) 1 8 Tryz.underlying29 hi hz0 hz1 hz2 rfl (by decide) (.slice au k cu) k (out.map (Value.int .i64)) rfl (hu.alloc _) ⟨w2.heap.size,0,none⟩ 1 1 [.int .i64 (x:Nat)] rfl rfl (by intro j y hj;match j,hj with | 0,hj=>(simp at hj;subst hj;simp [Addr.add])) (by intro y hy;simp at hy;subst hy;rfl) (by omega) (by have:=HK8.out;unfold maxLen;omega) (by have:=HK8.out;omega) (by simp;omega) _ rfl ?_);intro g cap1 w4 hown hgrow hat hlt1)
      have HOV4:Hid (OVI w4 w.heap.size (.slice (some ⟨g,0,none⟩) (k+1) cap1) (out++[((x:Nat):Int)])):=OVI.app HF.out.1 HOV2.out.2 (by omega) hown
      have HRD4:Hid (RD w4 B R a zs.length cap n (q+4)):=RD.grown (HRD2.out.alloc _) ⟨HOV2.out.1.alloc _,HOV2.out.2⟩ hgrow
      have HON4:Hid (Only (fun k=>k=R) w w4):=fr_grown (HON2.out.alloc _) ⟨HOV2.out.1.alloc _,HOV2.out.2⟩ hgrow
      have HB4:Hid (Below B w0 w4):=fr_below HBW.out HON4.out
      have hz4:B≤w4.heap.size:=HRD4.out.2.2
      clear hown hgrow hat hlt1 HOV2 HB2 HRD2 hu hz3 HON2 hzW2
      have HC:=HRD4.out.yes V 3 (by omega) (HE.out.2.2.2.2.2.below HB4.out (by rw [HE.out.2.2.2.2.1];exact Nat.le_refl _)) HZ.out (by omega) (by omega) (by omega)
      refine HC.mono ?_
      clear HC
      rintro e w5 ⟨rfl,hrd5,hon5,hb5⟩
      have hye:V / 2 ^ (q+4) % 2 ^ (3:Int).toNat=bt V (q+4) 3:=rfl
      rw [hye]
      have hy8:=bt_lt V (q+4) 3
      have HON5:Hid (Only (fun k=>k=R) w w5):=HON4.out.trans hon5
      have hzW5:w.heap.size≤w5.heap.size:=HON5.out.size
      have HRD5:Hid (RD w5 B R a zs.length cap n (q+7)):=hrd5
      have HB5:Hid (Below B w0 w5):=HB4.out.trans hb5
      have HOV5:Hid (OVI w5 w.heap.size (.slice (some ⟨g,0,none⟩) (k+1) cap1) (out++[((x:Nat):Int)])):=HOV4.out.stayR hon5 (fun j hj he=>HOV4.out.blk_ne HRD4.out.1 (by decide) (by rw [hj,he]))
      have hz5:B≤w5.heap.size:=hrd5.2.2
      have HL:Hid ((out++[((x:Nat):Int)]).length=k+1):=by rw [List.length_append,HF.out.1];rfl
      have HGB:Hid (eb=true∨s<k+1+bt V (q+4) 3→gi n V s s p [] false=none):=by
       intro hbad
       rw [←HF.out.2.2]
       exact gi_bad (by rw [HF.out.1];exact hlt) HX0.out.2 c2 (by rw [HF.out.1];exact hbad)
      have HGZ:Hid (¬(eb=true∨s<k+1+bt V (q+4) 3)→gi n V s f (q+7) (out++[0]++List.replicate (bt V (q+4) 3) 0) (decide (bt V (q+4) 3<7))=gi n V s s p [] false):=by
       intro hgd
       rw [←HF.out.2.2]
       exact (gi_zero (by rw [HF.out.1];exact hlt) HX0.out.2 c2 (by rw [HF.out.1];exact hgd)).symm
      clear hye hb5 hrd5 hon5 HOV4 HB4 HRD4 hz4
      generalize bt V (q+4) 3=y at *
      obtain ⟨T9,y9,he9⟩:=HE.out.2.2.1.below HB5.out hG.2.2
      by_cases hbad:eb=true∨s<k+1+y
      ·have HN:Hid (gi n V s s p [] false=none):=HGB.out hbad
       clear HGB HGZ
       cases eb with
       | true=>
        go_wp2
        try go_region
        all_goals try go_wp2
        all_goals exact bodyPost_ret (v:=.tuple #[.slice none 0 0,.iface 297 (.pointer (some ⟨w5.heap.size,0,none⟩))]) (by simp [results,Tryz.results223,go_sem]) rfl ⟨giR.no (by repeat (first | exact HB5.out | refine Below.drew ?_ | refine Below.alloc ?_ (by first | exact hz5 | (simp;omega)) _)) HN.out,by repeat (first | exact HON5.out | refine Only.drew ?_ | refine Only.alloc ?_ _)⟩
       | false=>
        have hbd:(s:Int)-((k:Int)+1)<(y:Int):=by
         rcases hbad with h | h
         ·cases h
         ·omega
        go_wp2
        try go_region
        all_goals try go_wp2
        all_goals exact bodyPost_ret (v:=.tuple #[.slice none 0 0,.iface 297 (.pointer (some ⟨w5.heap.size,0,none⟩))]) (by simp [results,Tryz.results223,go_sem]) rfl ⟨giR.no (by repeat (first | exact HB5.out | refine Below.drew ?_ | refine Below.alloc ?_ (by first | exact hz5 | (simp;omega)) _)) HN.out,by repeat (first | exact HON5.out | refine Only.drew ?_ | refine Only.alloc ?_ _)⟩
      ·have HG:=HGZ.out hbad
       have hbd:¬(s:Int)-((k:Int)+1)<(y:Int):=by omega
       have hks2:k+1+y≤s:=by omega
       cases eb with
       | true=>exact absurd (Or.inl rfl) hbad
       | false=>
        clear HGB HGZ hbad
        have HGG:Hid (gi n V s f (q+7) (out++[0]++List.replicate y 0) (decide (y<7))=gi n V s s p [] false):=HG
        clear HG
        go_wp2_with (at_builtin;(refine wpList_append_zer rfl (.tmp 53) (.tmp 54) rfl w.heap.size (.slice (some ⟨g,0,none⟩) (k+1) cap1) (out++[((x:Nat):Int)]) rfl HOV5.out y rfl (by rw [HL.out];omega) (by rw [HL.out];omega) hzW5 ?_);intro v6 w6 hown6 hgrow6)
        obtain ⟨a6,c6,rfl⟩:=hown6.form
        have hl6:(out++[((x:Nat):Int)]++List.replicate y 0).length=k+1+y:=by rw [List.length_append,HL.out,List.length_replicate]
        rw [hl6] at hown6 ⊢
        have HOV6:Hid (OVI w6 w.heap.size (.slice a6 (k+1+y) c6) (out++[0]++List.replicate y 0)):=by rw [HX0.out.1] at hown6;exact hown6
        have HON6:Hid (Only (fun k=>k=R) w w6):=fr_grown HON5.out HOV5.out hgrow6
        have HB6:Hid (Below B w0 w6):=fr_below HBW.out HON6.out
        have HRD6:Hid (RD w6 B R a zs.length cap n (q+7)):=RD.grown HRD5.out HOV5.out hgrow6
        have HL6:Hid ((out++[(0:Int)]++List.replicate y 0).length=k+1+y):=by rw [HX0.out.1] at hl6;exact hl6
        clear hl6 hown6 hgrow6 HOV5 HB5 HL HRD5
        go_roundw
        case rel=>exact ⟨q+7,k+1+y,f,out++[0]++List.replicate y 0,a6,c6,decide (y<7),rfl,by simp;omega,⟨HL6.out,by omega,by omega⟩,⟨by have:=HF.out.2.1;omega,HGG.out⟩,HOV6.out,HRD6.out,HB6.out,HON6.out⟩
        case measure=>simp [lenS];omega
     ·skip
      go_wp2_with (at_builtin;(refine wpList_append_lies _ rfl (.tmp 23) (.tmp 25) 29 rfl w.heap.size 3 i0 (.int .i64 0) 1 8 Tryz.underlying29 hi hz0 hz1 hz2 rfl (by decide) (.slice au k cu) k (out.map (Value.int .i64)) rfl (hu.alloc _) ⟨w2.heap.size,0,none⟩ 1 1 [.int .i64 (x:Nat)] rfl rfl (by intro j y hj;match j,hj with | 0,hj=>(simp at hj;subst hj;simp [Addr.add])) (by intro y hy;simp at hy;subst hy;rfl) (by omega) (by have:=HK8.out;unfold maxLen;omega) (by have:=HK8.out;omega) (by simp;omega) _ rfl ?_);intro g cap1 w4 hown hgrow hat hlt1)
      have HOV4:Hid (OVI w4 w.heap.size (.slice (some ⟨g,0,none⟩) (k+1) cap1) (out++[((x:Nat):Int)])):=OVI.app HF.out.1 HOV2.out.2 (by omega) hown
      have HRD4:Hid (RD w4 B R a zs.length cap n (q+4)):=RD.grown (HRD2.out.alloc _) ⟨HOV2.out.1.alloc _,HOV2.out.2⟩ hgrow
      have HON4:Hid (Only (fun k=>k=R) w w4):=fr_grown (HON2.out.alloc _) ⟨HOV2.out.1.alloc _,HOV2.out.2⟩ hgrow
      have HB4:Hid (Below B w0 w4):=fr_below HBW.out HON4.out
      have hz4:B≤w4.heap.size:=HRD4.out.2.2
      clear hown hgrow hat hlt1 HOV2 HB2 HRD2 hu hz3 HON2 hzW2
      have HN:Hid (gi n V s s p [] false=none):=by rw [←HF.out.2.2];exact gi_7 (by rw [HF.out.1];exact hlt) c1 HX0.out.2 c2
      have HC:=HRD4.out.no 3 (by omega) (by omega) (HE.out.1.below HB4.out hG.1) (HE.out.2.1.below HB4.out hG.2.1) (by omega)
      refine HC.mono ?_
      clear HC
      rintro e w5 ⟨⟨T,y,rfl⟩,m,rfl⟩
      go_wp2
      exact bodyPost_ret (v:=.tuple #[.slice none 0 0,.iface T y]) (by simp [results,Tryz.results223,go_sem]) rfl ⟨giR.no (below_dL HB4.out _) HN.out,HON4.out.drewN _⟩
    ·have hx1:((x:Int) == 0)=false:=by rw [beq_eq_false_iff_ne];omega
     go_wp2_with (at_builtin;(refine wpList_append_lies _ rfl (.tmp 23) (.tmp 25) 29 rfl w.heap.size 3 i0 (.int .i64 0) 1 8 Tryz.underlying29 hi hz0 hz1 hz2 rfl (by decide) (.slice au k cu) k (out.map (Value.int .i64)) rfl (hu.alloc _) ⟨w2.heap.size,0,none⟩ 1 1 [.int .i64 (x:Nat)] rfl rfl (by intro j y hj;match j,hj with | 0,hj=>(simp at hj;subst hj;simp [Addr.add])) (by intro y hy;simp at hy;subst hy;rfl) (by omega) (by have:=HK8.out;unfold maxLen;omega) (by have:=HK8.out;omega) (by simp;omega) _ rfl ?_);intro g cap1 w4 hown hgrow hat hlt1)
     have HOV4:Hid (OVI w4 w.heap.size (.slice (some ⟨g,0,none⟩) (k+1) cap1) (out++[((x:Nat):Int)])):=OVI.app HF.out.1 HOV2.out.2 (by omega) hown
     have HRD4:Hid (RD w4 B R a zs.length cap n (q+4)):=RD.grown (HRD2.out.alloc _) ⟨HOV2.out.1.alloc _,HOV2.out.2⟩ hgrow
     have HON4:Hid (Only (fun k=>k=R) w w4):=fr_grown (HON2.out.alloc _) ⟨HOV2.out.1.alloc _,HOV2.out.2⟩ hgrow
     have HB4:Hid (Below B w0 w4):=fr_below HBW.out HON4.out
     have hz4:B≤w4.heap.size:=HRD4.out.2.2
     clear hown hgrow hat hlt1 HOV2 HB2 HRD2 hu hz3 HON2 hzW2
     have HG:Hid (gi n V s f (q+4) (out++[((x:Nat):Int)]) false=gi n V s s p [] false):=by rw [←HF.out.2.2,HXE.out];exact (gi_pos (by rw [HF.out.1];exact hlt) c1 (by rw [←HXE.out];exact hx0)).symm
     go_roundw
     case rel=>exact ⟨q+4,k+1,f,out++[((x:Nat):Int)],some ⟨g,0,none⟩,cap1,false,rfl,rfl,⟨by rw [List.length_append,HF.out.1];rfl,by omega,by omega⟩,⟨by have:=HF.out.2.1;omega,HG.out⟩,HOV4.out,HRD4.out,HB4.out,HON4.out⟩
     case measure=>simp [lenS];omega
   ·have HN:Hid (gi n V s s p [] false=none):=by rw [←HF.out.2.2];exact gi_4 (by rw [HF.out.1];exact hlt) c1
    have HC:=HB.out.2.no 4 (by omega) (by omega) (HE.out.1.below HB.out.1 hG.1) (HE.out.2.1.below HB.out.1 hG.2.1) (by omega)
    go_wp2_with fail
    refine HC.mono ?_
    clear HC
    rintro e w2 ⟨⟨T,y,rfl⟩,m,rfl⟩
    go_wp2
    exact bodyPost_ret (v:=.tuple #[.slice none 0 0,.iface T y]) (by simp [results,Tryz.results223,go_sem]) rfl ⟨giR.no (below_dL HB.out.1 _) HN.out,HON.out.drewN _⟩
  ·have hlt2:¬(k:Int)<(s:Int):=by omega
   have HG:Hid (gi n V s s p [] false=some (out,q)):=by rw [←HF.out.2.2];exact gi_end (by rw [HF.out.1];exact hlt)
   have hks:k=s:=by omega
   subst hks
   have HC:=checkLens_any au cu out wr HOV.out.ins (by rw [HF.out.1];omega) (HE.out.2.2.2.1.below (by rw [HE.out.2.2.2.2.1];exact HB.out.1))
   rw [HF.out.1] at HC
   go_wp2_with fail
   refine HC.mono ?_
   clear HC
   rintro e w5 ⟨hb5,hy5,hn5⟩
   obtain ⟨a',c',e',hm⟩:=HOV.out.mine
   have HON5:Hid (Only (fun k=>k=R) w w5):=HON.out.trans (Only.ofBelow hb5 nl)
   have HM:Hid (MinI w5 B w5.heap.size au cu out):=by
    obtain ⟨rfl,-,rfl⟩:au=a'∧k=out.length∧cu=c':=by simpa using e'
    exact (hm.below hb5).mono HBW.out.2.2 hb5.size
   have HB5:Hid (Below B w0 w5∧RD w5 B R a zs.length cap n q):=⟨HB.out.1.trans (hb5.mono hsz),HB.out.2.only (Only.ofBelow (S:=fun _=>False) hb5 nl) (by simp)⟩
   clear e' hm hb5
   cases hlb:lensB out with
   | true=>
    obtain rfl:=hy5 hlb
    have HRR:giR B w0 w5 R a zs.length cap n V p k (.returned (.tuple #[.slice au k cu,.nilIface])):=by
     refine And.intro HB5.out.1 (And.intro (fun res q' hy=>?_) (fun hno=>absurd ⟨out,q,HG.out,hlb⟩ hno))
     obtain ⟨rfl,rfl⟩:out=res∧q=q':=by have:=hy.1;rw [HG.out] at this;simpa using this
     exact ⟨au,cu,by rw [HF.out.1],HM.out,HB5.out.2⟩
    clear hy5 hn5 HG HM HOV HF HB5 hlb HB
    go_wp2
    exact bodyPost_ret (v:=.tuple #[.slice au k cu,.nilIface]) (by simp [results,Tryz.results223,go_sem]) rfl ⟨HRR,HON5.out⟩
   | false=>
    obtain ⟨pp,rfl⟩:=hn5 hlb
    have HRR:giR B w0 w5 R a zs.length cap n V p k (.returned (.tuple #[.slice au k cu,.iface 297 (.pointer (some pp))])):=by
     refine And.intro HB5.out.1 (And.intro (fun res q' hy=>?_) (fun hno=>⟨_,_,_,rfl⟩))
     obtain ⟨rfl,rfl⟩:out=res∧q=q':=by have:=hy.1;rw [HG.out] at this;simpa using this
     have:=hy.2
     rw [hlb] at this
     cases this
    clear hy5 hn5 HG HM HOV HF HB5 hlb HB
    go_wp2
    exact bodyPost_ret (v:=.tuple #[.slice au k cu,.iface 297 (.pointer (some pp))]) (by simp [results,Tryz.results223,go_sem]) rfl ⟨HRR,HON5.out⟩
def bitAt (zs:List Int) (p:Nat):Nat:=(zs.getD (p / 8) 0).toNat / 2 ^ (p % 8) % 2
theorem l1bit_any (a:Option Addr) (cap:Nat) (zs:List Int) (N p:Int) (w:World) (hb:Byt w a zs) (h0:0≤p) (h1:p.toNat / 8<zs.length) (hp:p≤8388608) :
  Calls Tryz.prog 176 #[.agg #[.slice a zs.length cap,.int .i64 N],.int .i64 p] w fun e w'=>e=.returned (.int .i64 (bitAt zs p.toNat:Nat))∧Below w.heap.size w w':=by
 have hw:Below w.heap.size w (w.alloc (Obj.cells #[.slice a zs.length cap,.int .i64 N] 155)):=bAw
 obtain ⟨q,rfl⟩:=Int.eq_ofNat_of_zero_le h0
 simp only [Int.toNat_natCast] at *
 obtain ⟨b,off,rfl,hbl,hc⟩:=hb.len_pos (q / 8) h1
 have hs:=hc (q / 8) h1
 have hr:=getD_rng hb.1 (q / 8)
 have hlen:(q / 8:Nat)<zs.length:=h1
 generalize hz:zs.getD (q / 8) 0=z at *
 have HZ:Hid (zs.getD (q / 8) 0=z):=hz
 clear hz hc
 go_enter Tryz.func176,Tryz.ntmps176
 go_wp2
 go_ret
 exact ⟨ret_int (by unfold bitAt;rw [HZ.out];exact bit64 z _ hr),hw⟩
end Go.Proofs.YtaibkchbkedjnaaGreatDoor
