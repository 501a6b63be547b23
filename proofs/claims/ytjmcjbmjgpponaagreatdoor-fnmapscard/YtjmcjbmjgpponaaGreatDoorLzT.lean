import Derived.Test.YtjmcjbmjgpponaaGreatDoorLzL
import Derived.WideKeyEntry
import Derived.DeepKeys4
namespace Go.Proofs.YtjmcjbmjgpponaaGreatDoor
open Go.RowKit Go.Maps Go.ChangeShapes Go.ChangeAt Go.MapKept Go.WideElems
open Go.ChangeMaps (setBlock heap_setBlock_same)
open Go.WideMaps (KeyLaw)
set_option linter.unusedVariables false
def lkV (q:Int × Int × Int):Value:=.agg #[.int .u8 q.1,.int .u8 q.2.1,.int .u8 q.2.2]
def lkL (q:Int × Int × Int):Lit:=.string (keyBytes [.int .u8 q.1,.int .u8 q.2.1,.int .u8 q.2.2])
def lkR (q:Int × Int × Int):Prop:=(0<=q.1/\q.1<=255)/\(0<=q.2.1/\q.2.1<=255)/\(0<=q.2.2/\q.2.2<=255)
open Go.ChangeMaps (setBlock heap_setBlock_same heap_setBlock_other)
open Go.WideMaps (KeyLaw)
def zrr (w:World) (M n:Nat) (f:Int × Int × Int->List Int):Prop:=
 ∃ D:DataW Unit,w.ownsGroups Tryz.prog 201 (M+1) 3 .i64 M n D/\IsMap D/\∀ q,lkR q->Itm (D.atKey (lkL q) .nil) (f q)
end Go.Proofs.YtjmcjbmjgpponaaGreatDoor
namespace Go.Proofs.YtjmcjbmjgpponaaGreatDoor
open Go.RowKit
set_option linter.unusedVariables false
set_option linter.unusedSimpArgs false
structure Hst (w:World) (R M:Nat) (a:Option Addr) (n c:Nat):Prop where
 blk:w.heap[R]?=some (.cells #[.slice a n c,.map (some M)] 199 (0,0))
theorem zht (m:Nat):Builtin.zeroCells (Value.int .i64 0).cells m=((List.replicate m (0:Int)).map (Value.int .i64)).toArray:=by
 apply Array.ext'
 simp only [Builtin.zeroCells,Value.cells,Array.toList_map,Array.toList_range,List.map_replicate]
 rw [List.eq_replicate_iff];refine ⟨by simp,fun b hb=>?_⟩
 simp only [List.mem_map] at hb
 obtain ⟨i,_,rfl⟩:=hb
 simp [Nat.mod_one]
theorem z9q {P:Program} (w:World) (base:Nat) (t tn ty e:TypeId) (i:TypeInfo) (k kn:IntKind) (ht:P.underlying t=some (.slice e)) (htn:P.underlying tn=some (.int kn)) (hi:P.info? e=some i) (hz:i.zero=some (.int .i64 0))
  (hsize:i.size=1) (hby:i.bytes<=8) (v:Value) (n:Nat) (hn:0<n) (xs:List Value) (hown:w.ownsRow base e 1 v n xs) (m:Nat) (hnm:n+m<=1000000) (hbase:base<=w.heap.size) :
  ∃ v' w',(Builtin.append_ #[t,tn] ty #[v,.int k m]).run P w=.ok v' w'/\w'.ownsRow base e 1 v' (n+m) (xs++(List.replicate m (0:Int)).map (Value.int .i64))/\w.grownBy w' v.ownBlock:=by
 have hl:((List.replicate m (0:Int)).map (Value.int .i64)).length=m:=by simp
 have hZ:=zht m;have h1:∀ u ∈ (List.replicate m (0:Int)).map (Value.int .i64),u.oneCell'=true:=by
  intro u hu
  simp only [List.mem_map] at hu
  obtain ⟨z,_,rfl⟩:=hu
  rfl
 generalize (List.replicate m (0:Int)).map (Value.int .i64)=news at *;have hlen:(xs++news).length=n+m:=by rw [List.length_append,hown.1,hl];omega
 have hw:IntKind.i64.wrap (m:Int)=m:=by rw [IntKind.wrap_i64];omega
 have hneg:¬((m:Int)<0):=by omega
 have hmb:m*i.bytes<=m*8:=Nat.mul_le_mul_left _ hby;have h48i:¬(281474976710656<(m:Int)*(i.bytes:Int)):=by
  rw [<-Int.natCast_mul]
  omega
 rcases hown.2 with ⟨rfl,rfl⟩ | ⟨g,cap,cur,rfl,hbg,hg,hnc,hcm,hcs,htake⟩
 ·omega
 ·by_cases hroom:n+m<=cap
  ·have hst:=run_storeCells_at P g n e news 0 cur w hg (by simp [hl];omega) h1
   simp only [Nat.add_zero] at hst
   have hr:(Builtin.append_ #[t,tn] ty #[.slice (some ⟨g,0,none⟩) n cap,.int k m]).run P w=.ok (.slice (some ⟨g,0,none⟩) (n+m) cap) (w.setRow g (cur.toList.take n++news++cur.toList.drop (n+news.length)).toArray):=by
    by_cases hm0:m=0
    ·subst hm0
     have hn0:news=[]:=List.eq_nil_of_length_eq_zero hl;subst hn0;have hw0:IntKind.i64.wrap 0=0:=by decide
     simp [Addr.add_lit] at hst
     simp [Builtin.append_,run_underlying ht,run_underlying htn,sizeOf,typeInfo,zeroValue,hi,hz,hsize,asInt,asIntOf,hw0,Addr.add_lit,hnc,hst]
    ·simp [Builtin.append_,run_underlying ht,run_underlying htn,sizeOf,typeInfo,zeroValue,hi,hz,hsize,asInt,asIntOf,hw,hneg,h48i,hroom,hm0,hZ,Addr.add_lit,hst]
   refine ⟨_,_,hr,⟨by rw [hlen,Nat.mul_one],.inr ⟨g,cap,_,rfl,hbg,setRow_heap w g cur _ e _ hg,hroom,hcm,?_,?_⟩⟩,⟨rfl,rfl,rfl,by simp,fun k _ hk=>setRow_other w g k _ (fun e=>hk (by simp [Value.ownBlock,e]))⟩⟩
   ·simp only [List.size_toArray,List.length_append,List.length_take,List.length_drop,Array.length_toList]
    omega
   ·rw [Nat.mul_one] at htake ⊢
    rw [htake,<-hlen];exact List.take_left
  ·have holds:∀ j u,xs[j]?=some u->w.cell? ((⟨g,0,none⟩:Addr).add j)=some u:=hown.cells (g:=g) rfl
   have hm0:¬m=0:=by omega
   have h63':¬(9223372036854775807<((n:Int)+(m:Int))):=by omega
   have hfit:=growslice_fits (need:=n+m) (old:=cap) (bytes:=i.bytes) (by omega) (by have:=Nat.mul_le_mul_left (n+m) hby;omega)
   have h48':¬(281474976710656<Builtin.nextslicecap (n+m) cap*i.bytes):=by omega
   have hfo:=run_firstCells_some (P:=P) w.drew 1 n ⟨g,0,none⟩ n cap xs hown.1 (by simpa using holds)
   have hr:(Builtin.append_ #[t,tn] ty #[.slice (some ⟨g,0,none⟩) n cap,.int k m]).run P w=.ok (.slice (some ⟨w.heap.size,0,none⟩) (n+m) (grownCap w (n+m) cap e))
     (w.drew.alloc (.cells (xs.toArray++news.toArray++Builtin.zeroCells (Value.int .i64 0).cells (grownCap w (n+m) cap e-(n+m))) e)):=by
    simp [Builtin.append_,run_underlying ht,run_underlying htn,sizeOf,typeInfo,zeroValue,hi,hz,hsize,asInt,asIntOf,hw,hneg,h48i,hroom,hm0,hZ,h63',h48',Question.forced,hfo,newRow,grownCap]
    congr 2
    apply Array.ext'
    simp [List.append_assoc]
   have hge:=grownCap_ge w (n+m) cap e;have hcm2:grownCap w (n+m) cap e<=maxLen:=grownCap_le_maxLen w (n+m) cap e (by unfold maxLen;omega)
   refine ⟨_,_,hr,⟨by rw [hlen,Nat.mul_one],.inr ⟨w.heap.size,_,_,rfl,hbase,heap_alloc_new w.drew _,hge,hcm2,?_,?_⟩⟩,⟨rfl,rfl,rfl,by simp,fun j hj _=>heap_alloc_old w.drew _ hj⟩⟩
   ·have hx:=hown.1
    simp only [Array.size_append,List.size_toArray,size_zeroCells,hl,Value.cells]
    simp
    omega
   ·rw [Nat.mul_one]
    simp only [Array.toList_append,List.append_assoc]
    rw [<-List.append_assoc,<-hlen];exact List.take_left
theorem OVI.appZ {w w':World} {B:Nat} {v v':Value} {zs:List Int} {n m:Nat} (h:OVI w B v zs) (hn:zs.length=n) (h2:w'.ownsRow B 3 1 v' (n+m) (zs.map (Value.int .i64)++(List.replicate m (0:Int)).map (Value.int .i64))):OVI w' B v' (zs++List.replicate m 0):=by
 refine ⟨?_,?_⟩
 ·rw [List.length_append,List.length_replicate,hn,List.map_append]
  exact h2
 ·intro z hz
  rcases List.mem_append.1 hz with hz | hz
  ·exact h.2 z hz
  ·have:=List.eq_of_mem_replicate hz
   omega
theorem z31 {ops:Array Oper} {rest:List Oper} {o:Oper} {a:Act} {Q:Exit->Act->World->Prop} {w:World} (hgd:o.guard=none) (s x:Operand)
  (ho:o.op=.call { callee:=.builtin .append,args:=#[s,x],argTypes:=#[57,3] })
  (B:Nat) (v:Value) (zs:List Int) (hs:a.eval s=v) (hown:OVI w B v zs) (m:Nat) (hx:a.eval x=.int .i64 (m:Nat)) (hp:0<zs.length) (hb1:zs.length+m<=1000000) (hbase:B<=w.heap.size)
  (h:∀ v' w',OVI w' B v' (zs++List.replicate m 0)->w.grownBy w' v.ownBlock->wpList Tryz.prog ops Q rest (a.put o.dst v') w'):wpList Tryz.prog ops Q (o :: rest) a w:=by
 obtain ⟨i0,hi,hz0,hz1,hz2⟩:=info_parts Tryz.infoI64;obtain ⟨v',w',hr,h2,h3⟩:=z9q (P:=Tryz.prog) w B 57 3 o.type 3 i0 .i64 .i64 Tryz.underlying57 Tryz.underlying3 hi hz0 hz1 (by rw [hz2];omega) v zs.length hp _ hown.1 m hb1 hbase
 refine wpList_plain hgd fun K hK'=>?_
 unfold Oper.wp execOp
 simp only [ho,resolve,invoke,builtin,Sem.run_bind,Sem.run_pure,Result.andThen_ok,List.map_toArray,List.map_cons,List.map_nil,hs,hx,hr]
 exact hK' _ _ (h v' w' (hown.appZ rfl h2) h3)
theorem zhk {w0 wr w1:World} {B:Nat} {v:Value} {zs:List Int} (hbel:Below B w0 wr) (hB:B<=wr.heap.size) (h:OVI wr B v zs) (hg:wr.grownBy w1 v.ownBlock):Below B w0 w1:=
 hbel.grown hg hB (fun k hk=>h.blk hk)
theorem OVI.blk_ne {w:World} {B:Nat} {v:Value} {zs:List Int} (h:OVI w B v zs) {Q:Nat} {cur:Array Value} {T:TypeId} (hQ:w.heap[Q]?=some (.cells cur T (0,0))) (hT:T≠3):some Q≠v.ownBlock:=by
 rcases h.1.2 with ⟨rfl,h0⟩ | ⟨g,cap,cur',rfl,hg,hh,_⟩
 ·simp [Value.ownBlock]
 ·simp only [Value.ownBlock,ne_eq,Option.some.injEq]
  rintro rfl;rw [hQ] at hh
  simp at hh
  exact hT hh.2
theorem z0c {w w':World} {row:Option Nat} (hg:w.grownBy w' row) {Q:Nat} {o:Obj} (hQ:w.heap[Q]?=some o) (hne:some Q≠row):w'.heap[Q]?=some o:=(hg.block Q (Array.getElem?_eq_some_iff.1 hQ).1 hne).trans hQ
theorem OVI.ins {w:World} {B:Nat} {a:Option Addr} {n c:Nat} {zs:List Int} (h:OVI w B (.slice a n c) zs):Ins w a zs:=by
 obtain ⟨a',c',e,hm⟩:=h.mine;obtain ⟨rfl,-,-⟩:a=a'/\n=zs.length/\c=c':=by simpa using e
 exact hm.byt
theorem OVI.below {w w':World} {B:Nat} {v:Value} {zs:List Int} (h:OVI w B v zs) (hb:Below w.heap.size w w'):OVI w' B v zs:=h.only (Only.ofBelow (S:=fun _=>False) hb nl) (by simp)
open Go.Maps
def tri (ys:List Int) (p:Nat):Int × Int × Int:=(ys.getD p 0,ys.getD (p+1) 0,ys.getD (p+2) 0)
def lpl (ys:List Int):Nat->Int × Int × Int->List Int
 | 0,_=>[]
 | k+1,q=>if k+3<=ys.length/\q=tri ys k then lpl ys k q++[(k:Int)] else lpl ys k q
def ofr (ys:List Int) (at_ p:Nat) (b:Nat × Nat):Nat × Nat:=if b.1<=alk ys p at_ then (alk ys p at_,at_-p) else b
end Go.Proofs.YtjmcjbmjgpponaaGreatDoor
namespace Go.Proofs.YtjmcjbmjgpponaaGreatDoor
open Go.RowKit
set_option linter.unusedVariables false
def zrk (ys:List Int) (q:Nat) (l:List Int):Nat × Nat:=l.foldl (fun b p=>ofr ys q p.toNat b) (0,0)
open Go.Maps
set_option linter.unusedSimpArgs false
end Go.Proofs.YtjmcjbmjgpponaaGreatDoor
