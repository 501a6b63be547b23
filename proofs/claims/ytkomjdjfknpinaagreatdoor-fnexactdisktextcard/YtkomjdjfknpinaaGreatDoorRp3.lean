import Derived.Test.YtkomjdjfknpinaaGreatDoorDkS2
import Derived.Lib.Bytes
import Derived.IntWalk
set_option maxRecDepth 20000
set_option maxHeartbeats 16000000
namespace Go.Proofs.YtkomjdjfknpinaaGreatDoor
open Go.RowKit
set_option linter.unusedVariables false
set_option linter.unusedSimpArgs false
theorem zeo (m:Nat):Builtin.zeroCells (Value.int .u8 0).cells m=((List.replicate m (0:Int)).map (Value.int .u8)).toArray:=by
 apply Array.ext'
 simp only [Builtin.zeroCells,Value.cells,Array.toList_map,Array.toList_range,List.map_replicate]
 rw [List.eq_replicate_iff];refine ⟨by simp,fun b hb=>?_⟩
 simp only [List.mem_map] at hb
 obtain ⟨i,_,rfl⟩:=hb
 simp [Nat.mod_one]
theorem z8i {P:Program} (w:World) (base:Nat) (t tn ty e:TypeId) (i:TypeInfo) (k kn:IntKind) (ht:P.underlying t=some (.slice e)) (htn:P.underlying tn=some (.int kn)) (hi:P.info? e=some i) (hz:i.zero=some (.int .u8 0))
  (hsize:i.size=1) (hby:i.bytes<=8) (v:Value) (n:Nat) (hn:0<n) (xs:List Value) (hown:w.ownsRow base e 1 v n xs) (m:Nat) (hnm:n+m<=1000000) (hbase:base<=w.heap.size) :
  ∃ v' w',(Builtin.append_ #[t,tn] ty #[v,.int k m]).run P w=.ok v' w'/\w'.ownsRow base e 1 v' (n+m) (xs++(List.replicate m (0:Int)).map (Value.int .u8))/\w.grownBy w' v.ownBlock:=by
 have hl:((List.replicate m (0:Int)).map (Value.int .u8)).length=m:=by simp
 have hZ:=zeo m;have h1:∀ u ∈ (List.replicate m (0:Int)).map (Value.int .u8),u.oneCell'=true:=by
  intro u hu
  simp only [List.mem_map] at hu
  obtain ⟨z,_,rfl⟩:=hu
  rfl
 generalize (List.replicate m (0:Int)).map (Value.int .u8)=news at *;have hlen:(xs++news).length=n+m:=by rw [List.length_append,hown.1,hl];omega
 have hw:IntKind.i64.wrap (m:Int)=m:=by rw [IntKind.wrap_i64];omega
 have hneg:¬((m:Int)<0):=by omega
 have hmb:m*i.bytes<=m*8:=Nat.mul_le_mul_left _ hby;have h48i:¬(281474976710656<(m:Int)*(i.bytes:Int)):=by
  rw [<-Int.natCast_mul]
  omega
 rcases hown.2 with ⟨rfl,rfl⟩ | ⟨g,cap,cur,rfl,hbg,hg,hnc,hcm,hcs,htake⟩
 ·omega
 ·by_cases hroom:n+m<=cap
  ·have hst:=run_storeCells_at P g n e news 0 cur w hg (by simp [hl];omega) h1
   simp only [Nat.add_zero] at hst
   have hr:(Builtin.append_ #[t,tn] ty #[.slice (some ⟨g,0,none⟩) n cap,.int k m]).run P w=.ok (.slice (some ⟨g,0,none⟩) (n+m) cap) (w.setRow g (cur.toList.take n++news++cur.toList.drop (n+news.length)).toArray):=by
    by_cases hm0:m=0
    ·subst hm0
     have hn0:news=[]:=List.eq_nil_of_length_eq_zero hl;subst hn0;have hw0:IntKind.i64.wrap 0=0:=by decide
     simp [Addr.add_lit] at hst
     simp [Builtin.append_,run_underlying ht,run_underlying htn,sizeOf,typeInfo,zeroValue,hi,hz,hsize,asInt,asIntOf,hw0,Addr.add_lit,hnc,hst]
    ·simp [Builtin.append_,run_underlying ht,run_underlying htn,sizeOf,typeInfo,zeroValue,hi,hz,hsize,asInt,asIntOf,hw,hneg,h48i,hroom,hm0,hZ,Addr.add_lit,hst]
   refine ⟨_,_,hr,⟨by rw [hlen,Nat.mul_one],.inr ⟨g,cap,_,rfl,hbg,setRow_heap w g cur _ e _ hg,hroom,hcm,?_,?_⟩⟩,⟨rfl,rfl,rfl,by simp,fun k _ hk=>setRow_other w g k _ (fun e=>hk (by simp [Value.ownBlock,e]))⟩⟩
   ·simp only [List.size_toArray,List.length_append,List.length_take,List.length_drop,Array.length_toList]
    omega
   ·rw [Nat.mul_one] at htake ⊢
    rw [htake,<-hlen];exact List.take_left
  ·have holds:∀ j u,xs[j]?=some u->w.cell? ((⟨g,0,none⟩:Addr).add j)=some u:=hown.cells (g:=g) rfl
   have hm0:¬m=0:=by omega
   have h63':¬(9223372036854775807<((n:Int)+(m:Int))):=by omega
   have hfit:=growslice_fits (need:=n+m) (old:=cap) (bytes:=i.bytes) (by omega) (by have:=Nat.mul_le_mul_left (n+m) hby;omega)
   have h48':¬(281474976710656<Builtin.nextslicecap (n+m) cap*i.bytes):=by omega
   have hfo:=run_firstCells_some (P:=P) w.drew 1 n ⟨g,0,none⟩ n cap xs hown.1 (by simpa using holds)
   have hr:(Builtin.append_ #[t,tn] ty #[.slice (some ⟨g,0,none⟩) n cap,.int k m]).run P w=.ok (.slice (some ⟨w.heap.size,0,none⟩) (n+m) (grownCap w (n+m) cap e))
     (w.drew.alloc (.cells (xs.toArray++news.toArray++Builtin.zeroCells (Value.int .u8 0).cells (grownCap w (n+m) cap e-(n+m))) e)):=by
    simp [Builtin.append_,run_underlying ht,run_underlying htn,sizeOf,typeInfo,zeroValue,hi,hz,hsize,asInt,asIntOf,hw,hneg,h48i,hroom,hm0,hZ,h63',h48',Question.forced,hfo,newRow,grownCap]
    congr 2
    apply Array.ext'
    simp [List.append_assoc]
   have hge:=grownCap_ge w (n+m) cap e;have hcm2:grownCap w (n+m) cap e<=maxLen:=grownCap_le_maxLen w (n+m) cap e (by unfold maxLen;omega)
   refine ⟨_,_,hr,⟨by rw [hlen,Nat.mul_one],.inr ⟨w.heap.size,_,_,rfl,hbase,heap_alloc_new w.drew _,hge,hcm2,?_,?_⟩⟩,⟨rfl,rfl,rfl,by simp,fun j hj _=>heap_alloc_old w.drew _ hj⟩⟩
   ·have hx:=hown.1
    simp only [Array.size_append,List.size_toArray,size_zeroCells,hl,Value.cells]
    simp
    omega
   ·rw [Nat.mul_one]
    simp only [Array.toList_append,List.append_assoc]
    rw [<-List.append_assoc,<-hlen];exact List.take_left
theorem OVB.appZ {w w':World} {B:Nat} {v v':Value} {zs:List Int} {n m:Nat} (h:OVB w B v zs) (hn:zs.length=n) (h2:w'.ownsRow B 5 1 v' (n+m) (zs.map (Value.int .u8)++(List.replicate m (0:Int)).map (Value.int .u8))):OVB w' B v' (zs++List.replicate m 0):=by
 refine ⟨?_,?_⟩
 ·rw [List.length_append,List.length_replicate,hn,List.map_append]
  exact h2
 ·intro z hz
  rcases List.mem_append.1 hz with hz | hz
  ·exact h.2 z hz
  ·have:=List.eq_of_mem_replicate hz
   omega
theorem z5p {ops:Array Oper} {rest:List Oper} {o:Oper} {a:Act} {Q:Exit->Act->World->Prop} {w:World} (hgd:o.guard=none) (s x:Operand)
  (ho:o.op=.call { callee:=.builtin .append,args:=#[s,x],argTypes:=#[36,3] })
  (B:Nat) (v:Value) (zs:List Int) (hs:a.eval s=v) (hown:OVB w B v zs) (m:Nat) (hx:a.eval x=.int .i64 (m:Nat)) (hp:0<zs.length) (hb1:zs.length+m<=1000000) (hbase:B<=w.heap.size)
  (h:∀ v' w',OVB w' B v' (zs++List.replicate m 0)->w.grownBy w' v.ownBlock->wpList Tryz.prog ops Q rest (a.put o.dst v') w'):wpList Tryz.prog ops Q (o :: rest) a w:=by
 obtain ⟨i0,hi,hz0,hz1,hz2⟩:=info_parts Tryz.infoU8;obtain ⟨v',w',hr,h2,h3⟩:=z8i (P:=Tryz.prog) w B 36 3 o.type 5 i0 .i64 .i64 Tryz.underlying36 Tryz.underlying3 hi hz0 hz1 (by rw [hz2];omega) v zs.length hp _ hown.1 m hb1 hbase
 refine wpList_plain hgd fun K hK'=>?_
 unfold Oper.wp execOp
 simp only [ho,resolve,invoke,builtin,Sem.run_bind,Sem.run_pure,Result.andThen_ok,List.map_toArray,List.map_cons,List.map_nil,hs,hx,hr]
 exact hK' _ _ (h v' w' (hown.appZ rfl h2) h3)
theorem Only.ofGrownT {w w':World} {row:Option Nat} (hg:w.grownBy w' row):Only (fun k=>row=some k) w w':=(Only.refl (fun k=>row=some k) w).grown hg (fun k hk=>.inl hk)
theorem zh9 (w:World) (n:Int) (a:Option Addr) (L c:Nat) (T:TypeId) (e:El) (h0:e.n=n) (h1:e.a=a) (h2:e.ls.length=L) (h3:e.c=c):∀ j u,(e.cells true)[j]?=some u->(w.alloc (Obj.cells #[.int .i64 n,.slice a L c] T)).cell? ⟨w.heap.size,j,none⟩=some u:=by
 intro j u hu
 subst h0 h1 h2 h3
 cases j with
 | zero=>simp [El.cells] at hu;simp [hu]
 | succ j=>
  cases j with
  | zero=>simp [El.cells] at hu;simp [hu]
  | succ j=>simp [El.cells] at hu
theorem z2t {o:Oper} {a:Act} {w:World} {K:Act->World->Prop} {Q:Exit->Act->World->Prop} (s x:Operand) (ho:o.op=.call { callee:=.builtin .append,args:=#[s,x],argTypes:=#[44,44] })
  (B:Nat) (v:Value) (es:List El) (hs:a.eval s=v) (hown:OVt w B v es) (X c:Nat) (e:El) (hx:a.eval x=.slice (some ⟨X,0,none⟩) 1 c) (hX:∀ j u,(e.cells true)[j]?=some u->w.cell? ⟨X,j,none⟩=some u) (hb1:es.length<=1000000) (hbase:B<=w.heap.size)
  (h:∀ v' w',OVt w' B v' (es++[e])->w.grownBy w' v.ownBlock->K (a.put o.dst v') w'):o.wp Tryz.prog a w K Q:=by
 obtain ⟨i0,hi,hz0,hz1,hz2⟩:=info_parts Tryz.infoItem;obtain ⟨v',w',hr,h2,h3,_,_⟩:=run_append_own_at (P:=Tryz.prog) w B 44 o.type 89 i0 _ (eW true) 32 Tryz.underlying44 hi hz0 hz1 hz2 rfl (by simp [eW]) v es.length _ hown.own ⟨X,0,none⟩ 1 c (e.cells true) (by rw [z0s,Nat.one_mul]) (fun j u hu=>by rw [z4j,Nat.zero_add];exact hX j u hu) (by
  intro u hu
  simp [El.cells] at hu
  rcases hu with rfl | rfl <;> rfl) (by unfold maxLen;omega) (by omega) hbase
 unfold Oper.wp execOp
 simp only [ho,resolve,invoke,builtin,Sem.run_bind,Sem.run_pure,Result.andThen_ok,List.map_toArray,List.map_cons,List.map_nil,hs,hx,hr]
 refine h v' w' ⟨?_⟩ h3;rw [List.length_append,List.flatMap_append]
 simpa using h2
theorem Box3.set2 {W:World} {b:Nat} {x y z:Value} (h:Box3 W b x y z) (u:Value):Box3 (W.setCell ⟨b,2,none⟩ u) b x y u:=by
 obtain ⟨h0,h1,h2,h3,h4,h5,h6⟩:=h;exact ⟨(World.cell?_setCell_other W _ _ _ (by simp)).trans h0,(World.cell?_setCell_other W _ _ _ (by simp)).trans h1,World.cell?_setCell_same W _ _ h2,by simp [h3],by simp [h4],by simp [h5],by simpa using h6⟩
theorem Box3.other {W:World} {b:Nat} {x y z:Value} (h:Box3 W b x y z) {p:Addr} (hp:p.block≠b) (u:Value):Box3 (W.setCell p u) b x y z:=by
 obtain ⟨h0,h1,h2,h3,h4,h5,h6⟩:=h;have ne:∀ o:Nat,p≠⟨b,o,none⟩:=fun o e=>hp (by rw [e])
 exact ⟨(World.cell?_setCell_other W _ _ _ (ne 0)).trans h0,(World.cell?_setCell_other W _ _ _ (ne 1)).trans h1,(World.cell?_setCell_other W _ _ _ (ne 2)).trans h2,by simpa using h3,by simpa using h4,by simpa using h5,by simpa using h6⟩
structure CpP (w W:World) (X:Nat) (E O:Int) (u:Value) (fs:List El):Prop where
 bel:Below w.heap.size w W
 hX:w.heap.size<=X
 row:OVt W (X+1) u fs
 box:Box3 W X (.int .i64 E) (.int .i64 O) u
section
variable {w W W' w2 w3 : World} {X : Nat} {E O : Int} {u v' : Value} {fs : List El} {e : El} {ob : Obj}
theorem CpP.step (h:CpP w W X E O u fs) (hb:Below W.heap.size W W'):CpP w W' X E O u fs:=⟨h.bel.trans (hb.mono h.bel.size),h.hX,h.row.below hb,h.box.step hb⟩
theorem CpP.mid (h:CpP w W X E O u fs) (hb:Below W.heap.size W w2):Below W.heap.size W (w2.alloc ob)/\X+1<=(w2.alloc ob).heap.size:=by
 have hba:Bw w2 (w2.alloc ob):=ba;have hlt:=h.box.lt;have hs2:=hb.size;exact ⟨hb.trans (hba.mono hs2),by simp;omega⟩
theorem CpP.more (h:CpP w W X E O u fs) (hb:Below W.heap.size W w2) (hov:OVt w3 (X+1) v' (fs++[e])) (hg:(w2.alloc ob).grownBy w3 u.ownBlock) :
  CpP w (w3.setCell ⟨X,2,none⟩ v') X E O v' (fs++[e])/\Below (X+1) W w3:=by
 obtain ⟨hb2,hx2⟩:=h.mid (ob:=ob) hb;have hx:=h.hX;have hlt:=h.box.lt;have hr2:=h.row.below hb2;have hbw:Below (X+1) W w3:=(hb2.mono (by omega)).grown hg hx2 (fun k hk=>(hr2.blk hk).1)
 have hon:Only (fun b=>b=X) w3 (w3.setCell ⟨X,2,none⟩ v'):=(Only.refl (fun b=>b=X) w3).setCell (p:=⟨X,2,none⟩) (.inl rfl) _
 exact ⟨⟨(h.bel.trans (hbw.mono (by omega))).setCell (p:=⟨X,2,none⟩) hx _,hx,hov.stay hon (fun b hb e=>by have:=(hov.blk hb).1;omega),(h.box.keep hbw (by omega)).set2 _⟩,hbw⟩
theorem CpP.deep (h:CpP w W X E O u fs) (hd:Deep W (X+1) fs) (hb:Below W.heap.size W w2) (hm:Mine w2 W.heap.size w2.heap.size e.a e.c e.ls) (hg:(w2.alloc ob).grownBy w3 u.ownBlock) :
  Deep (w3.setCell ⟨X,2,none⟩ v') (X+1) (fs++[e]):=by
 obtain ⟨hb2,hx2⟩:=h.mid (ob:=ob) hb;have hba:Below w2.heap.size w2 (w2.alloc ob):=ba;have hlt:=h.box.lt;have hd2:Deep (w2.alloc ob) (X+1) (fs++[e]):=((hd.below hb).snoc (U:=W.heap.size) hm (fun x hx k hk=>hd.lt x hx k hk) (by omega)).below hba
 have hr2:=h.row.below hb2;have hd3:Deep w3 (X+1) (fs++[e]):=hd2.stay (Only.ofGrownT hg) (fun x hx k hk e=>hr2.other (hd2.mine x hx) e hk)
 have hon:Only (fun b=>b=X) w3 (w3.setCell ⟨X,2,none⟩ v'):=(Only.refl (fun b=>b=X) w3).setCell (p:=⟨X,2,none⟩) (.inl rfl) _
 exact hd3.stay hon (fun x hx b hb e=>by have:=((hd3.mine x hx).rowE hb).1;omega)
end
theorem ziu {ss ts:List El} (h:ts.map El.ct=ss.map El.ct) (hr:∀ e ∈ ss,rE true e):∀ e ∈ ts,rE true e:=by
 intro e he
 obtain ⟨i,hi,rfl⟩:=z2x he;have hl:=z00 h;have h1:=z0k h i;have h2:=hr _ (zf (es:=ss) (k:=i) (by omega))
 have hn:(ts.getD i de).n=(ss.getD i de).n:=congrArg Prod.fst h1;have hls:(ts.getD i de).ls=(ss.getD i de).ls:=congrArg Prod.snd h1;exact ⟨by rw [hn];exact h2.lo,by rw [hn];exact h2.hi,by rw [hls];exact h2.len,by simp⟩
def pbH (E O:Int) (n:Nat):List Int:=[80,E / 256,E % 256,O / 256,O % 256,n]
def pbI (es:List El):List Int:=es.flatMap (fun e=>[e.n,(e.ls.length:Int)])
def pbB (es:List El):List Int:=es.flatMap (fun e=>e.ls)
def pkL (E O:Int) (es:List El):List Int:=pbH E O es.length++pbI es++pbB es++List.replicate (256-szP es) 0
theorem z9x (E O:Int) (n:Nat):(pbH E O n).length=6:=rfl
theorem z9d (es:List El):(pbI es).length=es.length*2:=by
 induction es with
 | nil=>rfl
 | cons e es ih=>rw [show pbI (e :: es)=[e.n,(e.ls.length:Int)]++pbI es from rfl,List.length_append,ih,List.length_cons];simp;omega
theorem zff (es:List El):(pbB es).length=zb es:=by
 induction es with
 | nil=>rfl
 | cons e es ih=>rw [show pbB (e :: es)=e.ls++pbB es from rfl,List.length_append,ih];rfl
theorem zfh (es fs:List El):pbI (es++fs)=pbI es++pbI fs:=by simp [pbI,List.flatMap_append]
theorem zfo (es fs:List El):pbB (es++fs)=pbB es++pbB fs:=by simp [pbB,List.flatMap_append]
theorem zjw (es:List El) (k:Nat) (h:k<es.length):pbI (es.take (k+1))=pbI (es.take k)++[(es.getD k de).n,((es.getD k de).ls.length:Int)]:=by
 rw [List.take_succ_eq_append_getElem h,zfh]
 simp [pbI,List.getD_eq_getElem?_getD,List.getElem?_eq_getElem h]
theorem zlm (es:List El) (k:Nat) (h:k<es.length):pbB (es.take (k+1))=pbB (es.take k)++(es.getD k de).ls:=by
 rw [List.take_succ_eq_append_getElem h,zfo]
 simp [pbB,List.getD_eq_getElem?_getD,List.getElem?_eq_getElem h]
theorem zoe {E O:Int} {es ts:List El} (h:es.map El.ct=ts.map El.ct):pkL E O es=pkL E O ts:=by
 have h1:pbI es=pbI ts:=by
  have:∀ l:List El,pbI l=(l.map El.ct).flatMap (fun p=>[p.1,(p.2.length:Int)]):=fun l=>by simp [pbI,List.flatMap_map,El.ct]
  rw [this,this,h]
 have h2:pbB es=pbB ts:=by
  have:∀ l:List El,pbB l=(l.map El.ct).flatMap (fun p=>p.2):=fun l=>by simp [pbB,List.flatMap_map,El.ct]
  rw [this,this,h]
 have hl:=z00 h;have hz:szP es=szP ts:=by unfold szP;rw [hl,z24 _ _ h]
 unfold pkL;rw [h1,h2,hz,hl]
theorem zmd {E O:Int} {es:List El} (h:szP es<=256):(pkL E O es).length=256:=by
 unfold pkL
 simp only [List.length_append,z9x,z9d,zff,List.length_replicate]
 unfold szP at *
 omega
theorem zlk (w:World) (x y:Int) (hx:0<=x/\x<=255) (hy:0<=y/\y<=255):Byt (w.alloc (.cells #[.int .u8 x,.int .u8 y] 5)) (some ⟨w.heap.size,0,none⟩) [x,y]:=by
 refine ⟨by intro z hz;simp at hz;omega,fun _=>⟨w.heap.size,0,rfl,by simp,fun i hi=>?_⟩⟩
 have:i=0\/i=1:=by simp at hi;omega
 rcases this with rfl | rfl
 ·simp
 ·simp
theorem zo2 (w:World) (x0 x1 x2 x3 x4 x5:Int) (h0:0<=x0/\x0<=255) (h1:0<=x1/\x1<=255) (h2:0<=x2/\x2<=255) (h3:0<=x3/\x3<=255) (h4:0<=x4/\x4<=255) (h5:0<=x5/\x5<=255) (B:Nat) (hB:B<=w.heap.size) :
  OVB (w.alloc (.cells #[.int .u8 x0,.int .u8 x1,.int .u8 x2,.int .u8 x3,.int .u8 x4,.int .u8 x5] 5)) B (.slice (some ⟨w.heap.size,0,none⟩) 6 6) [x0,x1,x2,x3,x4,x5]:=by
 refine ⟨⟨rfl,.inr ⟨w.heap.size,6,_,rfl,hB,heap_alloc_new w _,Nat.le_refl _,by unfold maxLen;omega,rfl,rfl⟩⟩,?_⟩
 intro z hz
 simp at hz
 omega
structure PbR (E O:Int) (es:List El):Prop where
 e:0<=E/\E<=60000
 o:0<=O/\O<=60000
 n:es.length<=16
 r:∀ k,k<es.length->(0<=(es.getD k de).n/\(es.getD k de).n<16)/\(es.getD k de).ls.length<=65
 z:szP es<=256
theorem PkR.pb {f:List Int->Option (List Int)} (hf:zz f) {E O:Int} {es:List El} (h:PkR f E O es) (hl:∀ e ∈ es,e.ls.length<=1048576) (hr:∀ e ∈ es,∀ z ∈ e.ls,0<=z/\z<=255):PbR E O es:=
 ⟨⟨h.e0,h.e1⟩,⟨h.o0,h.o1⟩,h.n,fun k hk=>⟨(h.ap k hk).1.1,zi2 hf h.ap nl hl hr k hk⟩,h.sz⟩
theorem zee (E O:Int) (a:Option Addr) (cap:Nat) (es:List El) (w:World) (hb:Els true w a es) (hp:PbR E O es) :
  Calls Tryz.prog 100 #[.agg #[.int .i64 E,.int .i64 O,.slice a es.length cap]] w fun r w'=>(∃ v,r=.returned v/\OVB w' w.heap.size v (pkL E O es))/\Below w.heap.size w w':=by
 have HB:Hid (Els true w a es):=hb;have HP:Hid (PbR E O es):=hp;obtain ⟨he,ho,hn16,-,hz⟩:=id hp;have HSB:Hid (pkL E O es=(pbH E O es.length++pbI (es.take es.length)++pbB (es.take es.length))++List.replicate (256-szP es) 0/\pbH E O es.length++pbI (es.take 0)=[80,E / 256,E % 256,O / 256,O % 256,(es.length:Int)]/\szP es=6+2*es.length+zb es):=⟨by rw [List.take_length];rfl,rfl,rfl⟩
 have HSL:Hid (∀ k,k<=es.length->(pbH E O es.length++pbI (es.take k)).length=6+k*2):=fun k hk=>by rw [List.length_append,z9d,z9x,List.length_take,Nat.min_eq_left hk]
 have HSM:Hid (∀ k,k<=es.length->(pbH E O es.length++pbI (es.take es.length)++pbB (es.take k)).length=6+es.length*2+zb (es.take k)/\zb (es.take k)<=zb es):=fun k hk=>⟨by rw [List.length_append,List.length_append,z9d,z9x,zff,List.take_length],z1l es k⟩
 have HSS:Hid (∀ k,k<es.length->(pbH E O es.length++pbI (es.take k))++[(es.getD k de).n,((es.getD k de).ls.length:Int)]=pbH E O es.length++pbI (es.take (k+1))):=fun k hk=>by rw [zjw es k hk,List.append_assoc]
 have HST:Hid (∀ k,k<es.length->(pbH E O es.length++pbI (es.take es.length)++pbB (es.take k))++(es.getD k de).ls=pbH E O es.length++pbI (es.take es.length)++pbB (es.take (k+1))):=fun k hk=>by rw [zlm es k hk,List.append_assoc]
 have HS0:Hid (pbB (es.take 0)=[]/\True):=⟨rfl,trivial⟩;clear hb hp;generalize hlen:es.length=n at *;have HL:Hid (es.length=n/\True):=⟨hlen,trivial⟩;clear hlen;have hzz:(w.alloc (Obj.cells #[.int .i64 E,.int .i64 O,.slice a n cap] 46)).cell? ⟨w.heap.size,2,none⟩=some (.slice a n cap):=by simp
 have HZS:Hid (w.heap.size+1=(w.alloc (Obj.cells #[.int .i64 E,.int .i64 O,.slice a n cap] 46)).heap.size/\True):=⟨by simp,trivial⟩
 have HW:Hid (Bw w (w.alloc (Obj.cells #[.int .i64 E,.int .i64 O,.slice a n cap] 46))):=ba;have he1:0<=E / 256/\E / 256<=255:=by omega
 have he2:0<=E % 256/\E % 256<=255:=by omega
 have ho1:0<=O / 256/\O / 256<=255:=by omega
 have ho2:0<=O % 256/\O % 256<=255:=by omega
 have HOV0:Hid (OVB ((w.alloc (Obj.cells #[.int .i64 E,.int .i64 O,.slice a n cap] 46)).alloc (.cells #[.int .u8 80,.int .u8 (E / 256),.int .u8 (E % 256),.int .u8 (O / 256),.int .u8 (O % 256),.int .u8 n] 5)) (w.heap.size+1) (.slice (some ⟨w.heap.size+1,0,none⟩) (pbH E O n++pbI (es.take 0)).length 6) (pbH E O n++pbI (es.take 0))):=by
  have h1:=zo2 (w.alloc (Obj.cells #[.int .i64 E,.int .i64 O,.slice a n cap] 46)) 80 (E / 256) (E % 256) (O / 256) (O % 256) n (by omega) he1 he2 ho1 ho2 (by omega) (w.heap.size+1) (by rw [HZS.out.1];exact Nat.le_refl _)
  rw [HSB.out.2.1];rw [<-HZS.out.1] at h1;exact h1
 go_enter Tryz.func100,Tryz.ntmps100
 go_wp2
 have HB0:Hid (Below (w.heap.size+1) (w.alloc (Obj.cells #[.int .i64 E,.int .i64 O,.slice a n cap] 46)) ((w.alloc (Obj.cells #[.int .i64 E,.int .i64 O,.slice a n cap] 46)).alloc (.cells #[.int .u8 80,.int .u8 (E / 256),.int .u8 (E % 256),.int .u8 (O / 256),.int .u8 (O % 256),.int .u8 n] 5))):=(Below.refl _ _).alloc (by rw [<-HZS.out.1];exact Nat.le_refl _) _
 clear he1 he2 ho1 ho2;generalize (w.alloc (Obj.cells #[.int .i64 E,.int .i64 O,.slice a n cap] 46)).alloc (.cells #[.int .u8 80,.int .u8 (E / 256),.int .u8 (E % 256),.int .u8 (O / 256),.int .u8 (O % 256),.int .u8 n] 5)=W0 at *;generalize (w.alloc (Obj.cells #[.int .i64 E,.int .i64 O,.slice a n cap] 46))=W at *
 go_loopw [3,4] (fun v i wr=>∃ (k:Nat) (va:Option Addr) (vc:Nat),k<=n/\i=.int .i64 k/\v=.slice va (pbH E O n++pbI (es.take k)).length vc/\OVB wr (w.heap.size+1) (.slice va (pbH E O n++pbI (es.take k)).length vc) (pbH E O n++pbI (es.take k))/\Below (w.heap.size+1) W wr) (fun _ i _=>n-(intOf i).toNat)
 case atStart=>exact ⟨0,_,6,Nat.zero_le _,rfl,by rw [HSL.out 0 (Nat.zero_le _)],HOV0.out,HB0.out⟩
 case round=>
  obtain ⟨k,va,vc,hk,rfl,rfl,hov,hbel⟩:=hrel;have HR:Hid (Below (w.heap.size+1) W wr/\Bw w wr/\w.heap.size+1<=wr.heap.size):=⟨hbel,HW.out.trans (hbel.mono (by omega)),by rw [HZS.out.1];exact hbel.size⟩
  have p0:=keep hbel (by omega) hzz
  have HOV:Hid (OVB wr (w.heap.size+1) (.slice va (pbH E O n++pbI (es.take k)).length vc) (pbH E O n++pbI (es.take k))):=hov;have hsl:=HSL.out k hk;clear hbel hov HOV0 HB0
  by_cases hlt:k<n
  ·obtain ⟨b,off,rfl,hbw,c00,c01,hby0,hrg0⟩:=HB.out.pen k (by rw [HL.out.1];exact hlt)
   have c0:=keep HR.out.2.1 hbw c00;have c1:=keep HR.out.2.1 hbw c01;have hrg:=HP.out.r k (by rw [HL.out.1];exact hlt)
   have HE:Hid (_/\True):=⟨HSS.out k hlt,trivial⟩;have HLT:Hid (w.heap.size<wr.heap.size/\b<wr.heap.size):=⟨by have:=HR.out.2.2;omega,by have:=HR.out.2.2;omega⟩
   clear hby0 hrg0 HSS HSL HST HSM HSB HS0;generalize es.getD k de=q at *;obtain ⟨x,sa,sc,sl⟩:=q;obtain ⟨⟨x1,x2⟩,y2⟩:=hrg
   simp only at c0 c1 c00 c01 x1 x2 y2 HE
   generalize pbH E O n++pbI (es.take k)=ls at *;have hsl2:ls.length<=300:=by omega
   clear hsl;have hwx:IntKind.u8.wrap x=x:=IntWalk.u8_in _ (by omega)
   have hwy:IntKind.u8.wrap (sl.length:Int)=(sl.length:Int):=IntWalk.u8_in _ (by omega)
   have HWX:Hid (IntKind.u8.wrap x=x/\IntKind.u8.wrap (sl.length:Int)=(sl.length:Int)):=⟨hwx,hwy⟩;clear hwx hwy;go_wp2;refine zi (S:=fun W=>W.cell? ⟨w.heap.size,2,none⟩=some (.slice (some ⟨b,off,none⟩) n cap)/\W.cell? ⟨b,off+k*2,none⟩=some (.int .i64 x)/\W.cell? ⟨b,off+k*2+1,none⟩=some (.slice sa sl.length sc)) 18 (by kernel_rfl) (by kernel_rfl) (by exact ⟨p0,c0,c1⟩) (fun hHeld=>?_)
   refine tk 0 ?_
   try simp only [tkS]
   refine tk 1 ?_
   try simp only [tkS]
   refine tk 2 ?_
   try simp only [tkS]
   refine tk 3 ?_
   try simp only [tkS]
   refine tk 4 ?_
   try simp only [tkS]
   refine tk 5 ?_
   try simp only [tkS]
   refine tk 6 ?_
   try simp only [tkS]
   refine tk 7 ?_
   try simp only [tkS]
   refine tk 8 ?_
   try simp only [tkS]
   refine tk 9 ?_
   try simp only [tkS]
   refine tk 10 ?_
   try simp only [tkS]
   refine tk 11 ?_
   try simp only [tkS]
   refine tk 12 ?_
   try simp only [tkS]
   refine tk 13 ?_
   try simp only [tkS]
   refine tk 14 ?_
   try simp only [tkS]
   refine tk 15 ?_
   try simp only [tkS]
   refine wpAnyH_ready (rs:=[16]) (by kernel_rfl) (by simp) ?_
   refine AllReadyH.cons rfl (fun K hK=>?_) AllReadyH.nil
   go_simp
   refine hK.out _ _ (by exact ⟨ze _ (by exact HLT.out.1) p0,ze _ (by exact HLT.out.2) c0,ze _ (by exact HLT.out.2) c1⟩) (fun hHeld=>?_)
   clear hK K
   try simp only [tkS]
   refine wpAnyH_ready (rs:=[17]) (by kernel_rfl) (by simp) ?_
   refine AllReadyH.cons rfl (fun K hK=>?_) AllReadyH.nil
   refine z0i rfl (z12 (.tmp 32) (.tmp 48) rfl (w.heap.size+1) (.slice va ls.length vc) ls (by simp [Act.eval]) (by exact HOV.out.alloc _) (some ⟨wr.heap.size,0,none⟩) 2 [x,(sl.length:Int)] (by simp [Act.eval]) (by rw [HWX.out.1,HWX.out.2];exact zlk wr x sl.length ⟨x1,by omega⟩ ⟨by omega,by omega⟩) (by simp;omega) (by have:=HLT.out.1;simp;omega) ?_)
   intro v1 w1 hov1 hg1
   have hb1':Below (w.heap.size+1) W w1:=by exact z01 ((HR.out.1.alloc (by have:=HLT.out.1;omega) _).drew) (by have:=HLT.out.1;simp;omega) (show OVB _ _ _ ls from HOV.out.alloc _) hg1
   obtain ⟨va1,vc1,hv1⟩:=hov1.form;rw [HE.out.1] at hov1 hv1;subst hv1;have HN1:Hid (OVB w1 (w.heap.size+1) (.slice va1 (pbH E O n++pbI (es.take (k+1))).length vc1) (pbH E O n++pbI (es.take (k+1)))/\Below (w.heap.size+1) W w1):=⟨hov1,hb1'⟩;have hbz:Bw w w1:=HW.out.trans (hb1'.mono (by omega))
   refine hK.out _ _ (by exact ⟨keep hb1' (by omega) hzz,keep hbz hbw c00,keep hbz hbw c01⟩) (fun hHeld=>?_)
   clear hK K
   try simp only [tkS]
   refine wpAnyH_done (by kernel_rfl) ?_ _
   simp only [z0g,List.drop_succ_cons,List.drop_zero]
   clear hHeld hg1 hov1 hb1' hbz;go_wp2;go_roundw
   case rel=>exact ⟨k+1,va1,vc1,by omega,by go_num,by first | rfl | simp [Nat.add_assoc],HN1.out.1,HN1.out.2⟩
   case measure=>simp [intOf];omega
  ·have hkn:k=n:=by omega
   subst hkn;have HOV2:Hid (OVB wr (w.heap.size+1) (.slice va (pbH E O k++pbI (es.take k)++pbB (es.take 0)).length vc) (pbH E O k++pbI (es.take k)++pbB (es.take 0))):=by
    rw [HS0.out.1,List.append_nil];exact HOV.out
   have hl0:(pbH E O k++pbI (es.take k)).length=(pbH E O k++pbI (es.take k)++pbB (es.take 0)).length:=by rw [HS0.out.1,List.append_nil]
   rw [hl0];clear hl0 HOV HSS HSL hk hlt hsl;go_wp2
   go_loopw [3,5] (fun v i wr2=>∃ (j:Nat) (vb:Option Addr) (vd:Nat),j<=k/\i=.int .i64 j/\v=.slice vb (pbH E O k++pbI (es.take k)++pbB (es.take j)).length vd/\OVB wr2 (w.heap.size+1) (.slice vb (pbH E O k++pbI (es.take k)++pbB (es.take j)).length vd) (pbH E O k++pbI (es.take k)++pbB (es.take j))/\Below (w.heap.size+1) W wr2) (fun _ i _=>k-(intOf i).toNat)
   case atStart=>exact ⟨0,_,vc,Nat.zero_le _,rfl,rfl,HOV2.out,HR.out.1⟩
   case round=>
    clear HOV2 p0;obtain ⟨j,vb,vd,hj,rfl,rfl,hov,hbel⟩:=hrel;have HR2:Hid (Below (w.heap.size+1) W wr/\Bw w wr/\w.heap.size+1<=wr.heap.size):=⟨hbel,HW.out.trans (hbel.mono (by omega)),by rw [HZS.out.1];exact hbel.size⟩
    have p0:=keep hbel (by omega) hzz
    have HOV:Hid (OVB wr (w.heap.size+1) (.slice vb (pbH E O k++pbI (es.take k)++pbB (es.take j)).length vd) (pbH E O k++pbI (es.take k)++pbB (es.take j))):=hov;obtain ⟨hsl,hsm⟩:=HSM.out j hj;have hszb:zb es<=256:=by have:=HSB.out.2.2;omega
    clear hbel hov
    by_cases hlt:j<k
    ·obtain ⟨b,off,rfl,hbw,c00,c01,hby0,hrg0⟩:=HB.out.pen j (by rw [HL.out.1];exact hlt)
     have c0:=keep HR2.out.2.1 hbw c00;have c1:=keep HR2.out.2.1 hbw c01;have hrg:=HP.out.r j (by rw [HL.out.1];exact hlt)
     have HE:Hid (_/\True):=⟨HST.out j hlt,trivial⟩;have HBY:Hid (Byt wr (es.getD j de).a (es.getD j de).ls/\b<wr.heap.size):=⟨hby0.below HR2.out.2.1 nl,by have:=HR2.out.2.2;omega⟩
     clear hby0 hrg0 HST HSM HSB HS0 c00 c01;generalize es.getD j de=q at *;obtain ⟨x,sa,sc,sl⟩:=q;obtain ⟨-,y2⟩:=hrg
     simp only at c0 c1 y2 HE HBY
     generalize pbH E O k++pbI (es.take k)++pbB (es.take j)=ls at *;have hsl2:ls.length<=400:=by omega
     clear hsl;go_wp2_with (at_builtin;(refine zr rfl (.tmp 57) (.tmp 63) rfl (w.heap.size+1) (.slice vb ls.length vd) ls (by simp [Act.eval]) (HOV.out) sa sc sl (by simp [Act.eval]) (HBY.out.1) (by omega) (by have:=HR2.out.2.2;first | exact this | (simp;omega)) ?_;intro v1 w1 hov1 hg1;have hb1':Below (w.heap.size+1) W w1:=z01 (HR2.out.1) (by have:=HR2.out.2.2;first | exact this | (simp;omega)) (show OVB _ _ _ ls from HOV.out) hg1;obtain ⟨va1,vc1,hv1⟩:=hov1.form;rw [HE.out.1] at hov1 hv1;subst hv1;have HN1:Hid (OVB w1 (w.heap.size+1) (.slice va1 (pbH E O k++pbI (es.take k)++pbB (es.take (j+1))).length vc1) (pbH E O k++pbI (es.take k)++pbB (es.take (j+1)))/\Below (w.heap.size+1) W w1):=⟨hov1,hb1'⟩;clear hov1 hg1 hb1'))
     go_wp2
     go_roundw
     case rel=>exact ⟨j+1,va1,vc1,by omega,by go_num,by first | rfl | simp [Nat.add_assoc],HN1.out.1,HN1.out.2⟩
     case measure=>simp [intOf];omega
    ·have hjk:j=k:=by omega
     subst hjk;have hpz:=HP.out.z;have hsub:(256:Int)-((pbH E O j++pbI (es.take j)++pbB (es.take j)).length:Int)=((256-szP es:Nat):Int):=by
      have h1:=HSB.out.2.2;have h2:zb (es.take j)=zb es:=by rw [<-HL.out.1,List.take_length]
      omega
     have HZ:Hid (pkL E O es=(pbH E O j++pbI (es.take j)++pbB (es.take j))++List.replicate (256-szP es) 0/\True):=⟨HSB.out.1,trivial⟩;clear HSB HST HSM HS0 hsm;generalize pbH E O j++pbI (es.take j)++pbB (es.take j)=ls at *;have hsl2:ls.length<=400/\0<ls.length/\ls.length+(256-szP es)<=1000000:=by omega
     have hsub2:(256:Int)-(ls.length:Int)=((256-szP es:Nat):Int):=hsub;clear hsl hsub hpz;generalize 256-szP es=m at *;go_wp2_with (at_builtin;refine z5p rfl _ _ rfl (w.heap.size+1) (.slice vb ls.length vd) ls (by simp [Act.eval]) HOV.out m (by first | (simp [Act.eval];done) | (simp [Act.eval];exact hsub2)) hsl2.2.1 hsl2.2.2 HR2.out.2.2 ?_;intro v1 w1 hov1 hg1)
     have HF:Hid (OVB w1 w.heap.size v1 (pkL E O es)/\Bw w w1):=⟨by rw [HZ.out.1];exact hov1.weak (by omega),z01 HR2.out.2.1 (by have:=HR2.out.2.2;omega) (HOV.out.weak (by omega)) hg1⟩
     clear hov1 hg1;go_ret;exact ⟨⟨_,rfl,HF.out.1⟩,HF.out.2⟩
theorem z6r (w:World) (a:Option Addr) (c:Nat) (zs:List Int) (hb:Byt w a zs):(convert 36 9 (.slice a zs.length c)).run Tryz.prog w=.ok (.string (strOfNums zs)) w:=by
 rcases Nat.eq_zero_or_pos zs.length with h0 | h0
 ·obtain rfl:zs=[]:=List.eq_nil_of_length_eq_zero h0
  cases a with
  | none=>exact run_convert_bytes_nil (P:=Tryz.prog) w 36 5 Tryz.underlying36 Tryz.underlying5 0 c 9 Tryz.underlying9
  | some x=>
   show (convert 36 9 (.slice (some x) 0 c)).run Tryz.prog w=_
   rw [run_convert_bytes_string w 36 9 5 _ _ c Tryz.underlying36 Tryz.underlying5 Tryz.underlying9,run_bytesToString w x 0 c [] (by simp [loadCells,loadCellsFrom])]
   rfl
 ·obtain ⟨b,off,rfl,_,hc⟩:=hb.2 h0
  exact run_convert_bytes_arg (P:=Tryz.prog) w 36 5 Tryz.underlying36 Tryz.underlying5 b off zs.length c zs rfl hc 9 Tryz.underlying9
def sm8 (zs ys:List Int):Bool:=(strOfNums zs).toList == (strOfNums ys).toList
theorem zha {a b:Int} (ha:0<=a/\a<=255) (hb:0<=b/\b<=255) (h:UInt8.ofNat a.toNat=UInt8.ofNat b.toNat):a=b:=by
 have h1:=congrArg UInt8.toNat h
 simp only [UInt8.toNat_ofNat'] at h1
 omega
theorem z6u :∀ {zs ys:List Int},(∀ z ∈ zs,0<=z/\z<=255)->(∀ z ∈ ys,0<=z/\z<=255)->zs.map (fun a=>UInt8.ofNat a.toNat)=ys.map (fun a=>UInt8.ofNat a.toNat)->zs=ys
 | [],[],_,_,_=>rfl
 | [],y :: ys,_,_,h=>by simp at h
 | z :: zs,[],_,_,h=>by simp at h
 | z :: zs,y :: ys,hz,hy,h=>by
  simp only [List.map_cons,List.cons.injEq] at h
  rw [zha (hz z (by simp)) (hy y (by simp)) h.1,z6u (fun x hx=>hz x (by simp [hx])) (fun x hx=>hy x (by simp [hx])) h.2]
theorem zmh {zs ys:List Int} (hz:∀ z ∈ zs,0<=z/\z<=255) (hy:∀ z ∈ ys,0<=z/\z<=255):sm8 zs ys=true↔zs=ys:=by
 unfold sm8;rw [Lib.strOfNums_toList,Lib.strOfNums_toList,beq_iff_eq];unfold Lib.bytesOf;exact ⟨fun h=>z6u hz hy h,fun h=>by rw [h]⟩
def cN (zs:List Int) (k:Nat):Nat:=(zs.getD (7+2*k) 0).toNat
def aP (zs:List Int) (m:Nat):Nat->Nat
 | 0=>6+2*m
 | k+1=>aP zs m k+cN zs k
def itE (zs:List Int) (m k:Nat):El:=⟨zs.getD (6+2*k) 0,none,0,(zs.drop (aP zs m k)).take (cN zs k)⟩
def itL (zs:List Int) (m:Nat):Nat->List El
 | 0=>[]
 | k+1=>itL zs m k++[itE zs m k]
theorem z0p (zs:List Int) (m k:Nat):(itL zs m k).length=k:=by
 induction k with
 | zero=>rfl
 | succ k ih=>simp [itL,ih]
theorem z60 (zs:List Int) (m k:Nat):aP zs m k<=aP zs m (k+1):=by simp [aP]
theorem zgl (zs:List Int) (m:Nat) {j k:Nat} (h:j<=k):aP zs m j<=aP zs m k:=by
 induction k with
 | zero => obtain rfl : j = 0 := by omega
           exact Nat.le_refl _
 | succ k ih=>
  rcases Nat.lt_or_ge j (k+1) with h1 | h1
  ·exact Nat.le_trans (ih (by omega)) (z60 zs m k)
  ·obtain rfl:j=k+1:=by omega
   exact Nat.le_refl _
theorem z83 (zs:List Int) (m k:Nat):6+2*m<=aP zs m k:=zgl zs m (Nat.zero_le k)
theorem z6a {zs:List Int} {m k:Nat} (h:aP zs m (k+1)<=zs.length):(itE zs m k).ls.length=cN zs k:=by
 simp only [aP] at h
 simp only [itE,List.length_take,List.length_drop]
 omega
theorem zci {zs:List Int} {m k:Nat} (h:aP zs m k<=zs.length):zb (itL zs m k)+(6+2*m)=aP zs m k:=by
 induction k with
 | zero=>simp [itL,zb,aP]
 | succ k ih=>
  have h1:=ih (Nat.le_trans (z60 zs m k) h);rw [itL,z5d]
  simp only [zb,z6a h]
  simp only [aP]
  omega
theorem zo9 {zs:List Int} {m:Nat} (h:aP zs m m<=zs.length):szP (itL zs m m)=aP zs m m:=by
 have:=zci h;unfold szP;rw [z0p]
 omega
theorem zot {zs:List Int} {m k:Nat} (h:aP zs m k<=zs.length):pbB (itL zs m k)=(zs.drop (6+2*m)).take (aP zs m k-(6+2*m)):=by
 induction k with
 | zero=>simp [itL,pbB,aP]
 | succ k ih=>
  have h0:=z83 zs m k;rw [itL,zfo,ih (Nat.le_trans (z60 zs m k) h)];have h1:aP zs m (k+1)-(6+2*m)=(aP zs m k-(6+2*m))+cN zs k:=by simp only [aP];omega
  rw [h1,List.take_add,List.drop_drop];have h2:6+2*m+(aP zs m k-(6+2*m))=aP zs m k:=by omega
  rw [h2]
  simp [pbB,itE]
theorem zox (zs:List Int) (i:Nat) (h:i+1<zs.length):(zs.drop i).take 2=[zs.getD i 0,zs.getD (i+1) 0]:=by
 have h1:zs.drop i=zs[i] :: zs.drop (i+1):=List.drop_eq_getElem_cons (by omega)
 have h2:zs.drop (i+1)=zs[i+1] :: zs.drop (i+1+1):=List.drop_eq_getElem_cons h;rw [h1,h2,List.getD_eq_getElem?_getD,List.getD_eq_getElem?_getD,List.getElem?_eq_getElem h,List.getElem?_eq_getElem (show i<zs.length by omega)]
 rfl
theorem zow {zs:List Int} {m k:Nat} (hb:∀ z ∈ zs,0<=z/\z<=255) (hk:k<=m) (h:aP zs m k<=zs.length):pbI (itL zs m k)=(zs.drop 6).take (2*k):=by
 induction k with
 | zero=>simp [itL,pbI]
 | succ k ih=>
  have h0:=z83 zs m k;have h1:=z60 zs m k;rw [itL,zfh,ih (by omega) (by omega),show 2*(k+1)=2*k+2 by omega,List.take_add,List.drop_drop,zox zs (6+2*k) (by omega)]
  have h2:(itE zs m k).ls.length=cN zs k:=z6a h;have h3:((cN zs k:Nat):Int)=zs.getD (7+2*k) 0:=by
   have:7+2*k<zs.length:=by omega
   have h4:=(hb (zs.getD (7+2*k) 0) (by rw [List.getD_eq_getElem?_getD,List.getElem?_eq_getElem this];exact List.getElem_mem this)).1
   unfold cN
   omega
  have h5:(itE zs m k).n=zs.getD (6+2*k) 0:=rfl;have h6:6+2*k+1=7+2*k:=by omega
  simp [pbI,h2,h3,h5,h6]
def rpM (zs:List Int):Nat:=(zs.getD 5 0).toNat
def rpE (zs:List Int):Int:=zs.getD 1 0*256+zs.getD 2 0
def rpO (zs:List Int):Int:=zs.getD 3 0*256+zs.getD 4 0
theorem zoy {zs:List Int} (h:6<=zs.length):zs.take 6=[zs.getD 0 0,zs.getD 1 0,zs.getD 2 0,zs.getD 3 0,zs.getD 4 0,zs.getD 5 0]:=by
 match zs,h with
 | a :: b :: c :: d :: e :: f :: r,_=>simp [List.getD_eq_getElem?_getD]
theorem zku {zs:List Int} (hb:∀ z ∈ zs,0<=z/\z<=255) (h:6<=zs.length) (h0:zs.getD 0 0=80):pbH (rpE zs) (rpO zs) (rpM zs)=zs.take 6:=by
 have h1:=zm hb 1;have h2:=zm hb 2;have h3:=zm hb 3;have h4:=zm hb 4;have h5:=zm hb 5;rw [zoy h,h0];unfold pbH rpE rpO rpM;have e1:(zs.getD 1 0*256+zs.getD 2 0) / 256=zs.getD 1 0:=by omega
 have e2:(zs.getD 1 0*256+zs.getD 2 0) % 256=zs.getD 2 0:=by omega
 have e3:(zs.getD 3 0*256+zs.getD 4 0) / 256=zs.getD 3 0:=by omega
 have e4:(zs.getD 3 0*256+zs.getD 4 0) % 256=zs.getD 4 0:=by omega
 have e5:(((zs.getD 5 0).toNat:Nat):Int)=zs.getD 5 0:=by omega
 rw [e1,e2,e3,e4,e5]
theorem zkz {zs:List Int} (hb:∀ z ∈ zs,0<=z/\z<=255) (h:zs.length=256) (h0:zs.getD 0 0=80) (ha:aP zs (rpM zs) (rpM zs)<=256) :
  pkL (rpE zs) (rpO zs) (itL zs (rpM zs) (rpM zs))=zs↔∀ z ∈ zs.drop (aP zs (rpM zs) (rpM zs)),z=0:=by
 have hl:aP zs (rpM zs) (rpM zs)<=zs.length:=by omega
 have hlo:=z83 zs (rpM zs) (rpM zs);unfold pkL;rw [z0p,zku hb (by omega) h0,zow hb nl hl,zot hl,zo9 hl]
 have e1:zs.take 6++(zs.drop 6).take (2*rpM zs)=zs.take (6+2*rpM zs):=by rw [List.take_add]
 have e2:zs.take (6+2*rpM zs)++(zs.drop (6+2*rpM zs)).take (aP zs (rpM zs) (rpM zs)-(6+2*rpM zs))=zs.take (aP zs (rpM zs) (rpM zs)):=by
  rw [<-List.take_add]
  congr 1
  omega
 rw [e1,e2];generalize aP zs (rpM zs) (rpM zs)=q at *
 constructor
 ·intro hz z hm
  have h3:zs.drop q=List.replicate (256-q) 0:=by
   conv=>lhs;rw [<-hz]
   rw [List.drop_append_of_le_length (by simp;omega)]
   have:(zs.take q).drop q=[]:=by simp
   rw [this];rfl
  rw [h3] at hm;exact (List.mem_replicate.1 hm).2
 ·intro hz
  have h3:zs.drop q=List.replicate (256-q) 0:=List.eq_replicate_iff.2 ⟨by simp;omega,hz⟩
  rw [<-h3,List.take_append_drop]
structure PrR (W:World) (R b o L c p:Nat):Prop where
 c0:∃ q,W.cell? ⟨R,0,none⟩=some (.slice (some ⟨b,q,none⟩) (L-p) (c-p))/\(p<c->q=o+p)
 f0:W.frozen? ⟨R,0,none⟩=false
 lt:R<W.heap.size
 le:p<=L
 lc:L<=c
theorem PrR.keep {W W':World} {R b o L c p B:Nat} (h:PrR W R b o L c p) (hb:Below B W W') (hB:R<B):PrR W' R b o L c p:=by
 obtain ⟨⟨q,c0,hq⟩,f0,hl,hp,hc⟩:=h;exact ⟨⟨q,kp hb hB c0,hq⟩,(hb.frozen (p:=⟨R,0,none⟩) hB).trans f0,Nat.lt_of_lt_of_le hl hb.size,hp,hc⟩
theorem PrR.set {W:World} {R b o L c p k q:Nat} (h:PrR W R b o L c p) (hk:p+k<=L) (hq:p+k<c->q=o+(p+k)):PrR (W.setCell ⟨R,0,none⟩ (.slice (some ⟨b,q,none⟩) (L-p-k) (c-p-k))) R b o L c (p+k):=by
 obtain ⟨⟨q0,c0,hq0⟩,f0,hl,hp,hc⟩:=h;refine ⟨⟨q,?_,hq⟩,by simp [go_sem,f0],by simpa using hl,hk,hc⟩
 rw [show L-(p+k)=L-p-k by omega,show c-(p+k)=c-p-k by omega]
 simp [go_sem,c0]
theorem z2l (R b o L c p k:Nat) (w:World) (h:PrR w R b o L c p) (hk:p+k<=L) (hL:c<=9223372036854775807) :
  Calls Tryz.prog 167 #[.pointer (some ⟨R,0,none⟩),.int .i64 k] w fun e w'=>(∃ q,e=.returned (.slice (some ⟨b,q,none⟩) k (c-p))/\(p<c->q=o+p))/\PrR w' R b o L c (p+k)/\Only (fun x=>x=R) w w':=by
 have HR:Hid (PrR w R b o L c p):=h;obtain ⟨⟨q,c0,hq⟩,f0,hl,hp,hc⟩:=h;have h1:¬((k:Int) > ((L-p:Nat):Int)):=by omega
 have h2:(k:Int)<=((c-p:Nat):Int):=by omega
 have h3:k<=L-p:=by omega
 have h4:k<=c-p:=by omega
 by_cases h5:c-p-k=0
 ·have HQ:Hid ((p<c->q=o+p)/\PrR (w.setCell ⟨R,0,none⟩ (.slice (some ⟨b,q,none⟩) (L-p-k) (c-p-k))) R b o L c (p+k)):=⟨hq,HR.out.set hk (fun h=>by omega)⟩
  rw [h5] at HQ;clear hq
  go_enter Tryz.func167,Tryz.ntmps167
  go_wp2
  go_ret;exact ⟨⟨q,rfl,HQ.out.1⟩,HQ.out.2,(Only.refl (fun x=>x=R) w).setCell (p:=⟨R,0,none⟩) (.inl rfl) _⟩
 ·have hq1:=hq (by omega)
  subst hq1;have HQ:Hid ((p<c->o+p=o+p)/\PrR (w.setCell ⟨R,0,none⟩ (.slice (some ⟨b,o+p+k,none⟩) (L-p-k) (c-p-k))) R b o L c (p+k)):=⟨hq,HR.out.set hk (fun h=>by omega)⟩
  clear hq
  go_enter Tryz.func167,Tryz.ntmps167
  go_wp2
  go_ret;exact ⟨⟨o+p,rfl,fun _=>rfl⟩,HQ.out.2,(Only.refl (fun x=>x=R) w).setCell (p:=⟨R,0,none⟩) (.inl rfl) _⟩
theorem z5i (R b o L c p k:Nat) (T:TypeId) (x:Value) (w:World) (h:PrR w R b o L c p) (hk:L<p+k) (hL:c<=9223372036854775807) (hk2:k<=281474976710656) (hg:w.cell? ⟨8,0,none⟩=some (.iface T x)) :
  Calls Tryz.prog 167 #[.pointer (some ⟨R,0,none⟩),.int .i64 k] w fun e w'=>e=.panicked [{ v:=.iface T x,recovered:=false }]/\w'=w:=by
 obtain ⟨⟨q,c0,hq⟩,f0,hl,hp,hc⟩:=h;have h1:((k:Int) > ((L-p:Nat):Int)):=by omega
 go_enter Tryz.func167,Tryz.ntmps167
 go_wp2
 exact ⟨rfl,rfl,rfl⟩
theorem z6c (R b o c p:Nat) (zs:List Int) (w:World) (h:PrR w R b o zs.length c p) (hp:p<zs.length) (hL:c<=9223372036854775807) (hz:∀ i,i<zs.length->w.cell? ⟨b,o+i,none⟩=some (.int .u8 (zs.getD i 0))) (hr:0<=zs.getD p 0/\zs.getD p 0<=255) (hb:b≠R) (hbl:b<w.heap.size) :
  Calls Tryz.prog 148 #[.pointer (some ⟨R,0,none⟩)] w fun e w'=>e=.returned (.int .i64 (zs.getD p 0))/\PrR w' R b o zs.length c (p+1)/\Only (fun x=>x=R) w w':=by
 have HT:=z2l R b o zs.length c p 1 w h (by omega) hL
 have HZ:Hid (w.cell? ⟨b,o+p,none⟩=some (.int .u8 (zs.getD p 0))/\p<c):=⟨hz p hp,by have:=h.lc;omega⟩
 clear hz h;generalize zs.getD p 0=y at *
 go_enter Tryz.func148,Tryz.ntmps148
 go_wp2_with fail
 refine HT.mono ?_;clear HT;rintro e w1 ⟨⟨q,rfl,hq⟩,hR,ho⟩;have hq1:=hq HZ.out.2;subst hq1;have z1:=ho.cell hbl (fun h=>hb h) HZ.out.1
 have HR:Hid (PrR w1 R b o zs.length c (p+1)/\Only (fun x=>x=R) w w1):=⟨hR,ho⟩
 clear hR ho hq HZ;go_wp2;go_ret;exact ⟨by go_num,HR.out.1,HR.out.2⟩
theorem zo5 (x y:Int) (hx:0<=x/\x<=255) (hy:0<=y/\y<=255):bits .or .i64 (x*256) y=x*256+y:=by
 obtain ⟨a,rfl⟩:=Int.eq_ofNat_of_zero_le hx.1;obtain ⟨b,rfl⟩:=Int.eq_ofNat_of_zero_le hy.1;have ha:a<=255:=by omega
 have hb:b<=255:=by omega
 have e:((a:Int)*256)=((a*256:Nat):Int):=by omega
 have h:=Nat.two_pow_add_eq_or_of_lt (b:=b) (i:=8) (by omega) a
 rw [show 2 ^ 8*a=a*256 from by omega] at h
 rw [e,z44 _ _ (by omega) (by omega),<-h]
 omega
structure PrB (W:World) (R b o:Nat) (zs:List Int):Prop where
 z:∀ i,i<zs.length->W.cell? ⟨b,o+i,none⟩=some (.int .u8 (zs.getD i 0))
 r:∀ z ∈ zs,0<=z/\z<=255
 ne:b≠R
 lt:b<W.heap.size
theorem PrB.only {W W':World} {R b o:Nat} {zs:List Int} (h:PrB W R b o zs) (ho:Only (fun x=>x=R) W W'):PrB W' R b o zs:=⟨fun i hi=>ho.cell h.lt h.ne (h.z i hi),h.r,h.ne,Nat.lt_of_lt_of_le h.lt ho.size⟩
theorem PrB.below {W W':World} {R b o:Nat} {zs:List Int} (h:PrB W R b o zs) (hb:Below W.heap.size W W'):PrB W' R b o zs:=⟨fun i hi=>keep hb h.lt (h.z i hi),h.r,h.ne,Nat.lt_of_lt_of_le h.lt hb.size⟩
theorem zft (R b o c p:Nat) (zs:List Int) (w:World) (h:PrR w R b o zs.length c p) (hb:PrB w R b o zs) (hp:p+1<zs.length) (hL:c<=9223372036854775807) :
  Calls Tryz.prog 149 #[.pointer (some ⟨R,0,none⟩)] w fun e w'=>e=.returned (.int .i64 (zs.getD p 0*256+zs.getD (p+1) 0))/\PrR w' R b o zs.length c (p+2)/\Only (fun x=>x=R) w w':=by
 have H1:=z6c R b o c p zs w h (by omega) hL hb.z (zm hb.r p) hb.ne hb.lt
 have HB:Hid (PrB w R b o zs):=hb;have hx:=zm hb.r p;have hy:=zm hb.r (p+1);obtain ⟨y,hy0⟩:∃ y,zs.getD (p+1) 0=y:=⟨_,rfl⟩;have HY:Hid (zs.getD (p+1) 0=y/\True):=⟨hy0,trivial⟩;rw [hy0] at hy ⊢;clear h hb hy0;generalize zs.getD p 0=x at *
 go_enter Tryz.func149,Tryz.ntmps149
 go_wp2_with fail
 refine H1.mono ?_;clear H1;rintro e w1 ⟨rfl,hR1,ho1⟩;have hb1:=HB.out.only ho1;have H2:=z6c R b o c (p+1) zs w1 hR1 hp hL hb1.z (zm hb1.r _) hb1.ne hb1.lt;rw [HY.out.1] at H2;have HO1:Hid (Only (fun x=>x=R) w w1):=ho1
 clear hR1 ho1 hb1;go_wp2_with fail
 refine H2.mono ?_;clear H2;rintro e w2 ⟨rfl,hR2,ho2⟩;have HR2:Hid (PrR w2 R b o zs.length c (p+1+1)/\Only (fun x=>x=R) w w2):=⟨hR2,HO1.out.trans ho2⟩
 clear hR2 ho2 HO1;have hor:=zo5 x y hx hy;have hsh:IntKind.i64.wrap (x*256)=x*256:=IntWalk.i64_in _ (by omega)
 go_wp2
 go_ret;exact ⟨by first | rfl | go_num,HR2.out.1,HR2.out.2⟩
def z0h (zs:List Int):Bool:=zs.any (fun z=>z != 0)
theorem zji (zs:List Int) (k:Nat) (h:k<zs.length):z0h (zs.take (k+1))=(z0h (zs.take k) || (zs.getD k 0 != 0)):=by
 unfold z0h;rw [List.take_succ_eq_append_getElem h,List.any_append]
 simp [List.getD_eq_getElem?_getD,List.getElem?_eq_getElem h]
theorem zjz (zs:List Int) (k:Nat) (h:k<zs.length) (h2:(zs.getD k 0 != 0)=true):z0h zs=true:=by
 unfold z0h;rw [List.any_eq_true];refine ⟨zs.getD k 0,?_,h2⟩;rw [List.getD_eq_getElem?_getD,List.getElem?_eq_getElem h];exact List.getElem_mem h
theorem zmb {zs:List Int}:z0h zs=false↔∀ z ∈ zs,z=0:=by
 unfold z0h;rw [List.any_eq_false]
 simp
theorem zbj (za:Option Addr) (zc:Nat) (zs:List Int) (w:World) (hz:Byt w za zs) (hzn:zs.length<=1048576) :
  Calls Tryz.prog 168 #[.slice za zs.length zc,.func (.func 152) #[] #[]] w fun e w'=>
   (∃ r:Int,e=.returned (.int .i64 r)/\((z0h zs=true/\0<=r)\/(z0h zs=false/\r=-1)))/\Below w.heap.size w w':=by
 have HZ:Hid (Byt w za zs):=hz;have HH:Hid (∀ k,k<zs.length->(zs.getD k 0 != 0)=true->z0h zs=true):=fun k h h2=>zjz zs k h h2
 have HU:Hid (∀ k,k<zs.length->z0h (zs.take (k+1))=(z0h (zs.take k) || (zs.getD k 0 != 0))):=fun k h=>zji zs k h
 have HE:Hid (z0h (zs.take zs.length)=z0h zs/\z0h (zs.take 0)=false):=⟨by rw [List.take_length],rfl⟩
 clear hz;generalize hlen:zs.length=n at *;have HL:Hid (zs.length=n/\True):=⟨hlen,trivial⟩;clear hlen;generalize z0h zs=r0 at *
 go_enter Tryz.func168,Tryz.ntmps168
 go_wp2
 go_loopw [8] (fun i wr=>∃ k:Nat,k<=n/\i=.int .i64 k/\z0h (zs.take k)=false/\Below w.heap.size w wr) (fun i _=>n-(intOf i).toNat)
 case atStart=>exact ⟨0,Nat.zero_le _,rfl,HE.out.2,Below.refl _ _⟩
 case round=>
  obtain ⟨k,hk,rfl,han,hbel⟩:=hrel;have HAN:Hid (z0h (zs.take k)=false/\True):=⟨han,trivial⟩;clear han
  by_cases hlt:k<n
  ·obtain ⟨b,off,rfl,hb1,hc1⟩:=(HZ.out.below hbel nl).2 (by rw [HL.out.1];omega)
   have c0:=hc1 k (by rw [HL.out.1];exact hlt)
   have hu:=HU.out k hlt;have hh:=HH.out k hlt;rw [HAN.out.1,Bool.false_or] at hu;have hr:=zm HZ.out.1 k;clear hc1;generalize zs.getD k 0=z at *;have HU2:Hid (z0h (zs.take (k+1))=(z != 0)/\((z != 0)=true->r0=true)):=⟨hu,hh⟩;clear hu hh;have HB1:Hid (Bw w wr):=hbel
   by_cases hz0:z=0
   ·subst hz0
    go_wp2
    go_roundw
    case rel=>exact ⟨k+1,by omega,by go_num,by rw [HU2.out.1];rfl,HB1.out⟩
    case measure=>simp [intOf];omega
   ·have hzb:(z != 0)=true:=by simp [hz0]
    go_wp2
    go_ret;exact ⟨⟨_,rfl,.inl ⟨HU2.out.2 hzb,by omega⟩⟩,HB1.out⟩
  ·have hkn:k=n:=by omega
   subst hkn;have HF:Hid (r0=false/\True):=⟨by rw [<-HE.out.1];exact HAN.out.1,trivial⟩
   go_wp2
   go_ret;exact ⟨⟨_,rfl,.inr ⟨HF.out.1,rfl⟩⟩,hbel⟩
theorem z77 (za:Option Addr) (zc:Nat) (zs:List Int) (w:World) (hz:Byt w za zs) (hzn:zs.length<=1048576) :
  Calls Tryz.prog 151 #[.slice za zs.length zc,.func (.func 152) #[] #[]] w fun e w'=>
   e=.returned (.bool (z0h zs))/\Below w.heap.size w w':=by
 have HI:=zbj za zc zs w hz hzn;clear hz
 go_enter Tryz.func151,Tryz.ntmps151
 go_wp2_with fail
 refine HI.mono ?_;clear HI;rintro e w1 ⟨⟨r,rfl,hr⟩,hb1⟩;have HB:Hid (Bw w w1):=hb1;clear hb1;rcases hr with ⟨h1,h2⟩ | ⟨h1,rfl⟩
 ·have H1:Hid (z0h zs=true/\True):=⟨h1,trivial⟩
  clear h1;go_wp2;go_ret;exact ⟨by rw [H1.out.1];simp [h2],HB.out⟩
 ·have H1:Hid (z0h zs=false/\True):=⟨h1,trivial⟩
  clear h1;go_wp2;go_ret;exact ⟨by rw [H1.out.1];rfl,HB.out⟩
theorem Only.thenBelow {S:Nat->Prop} {a b c:World} (h:Only S a b) (k:Below a.heap.size b c):Only S a c:=⟨k.os.trans h.os,k.tape.trans h.tape,k.output.trans h.output,Nat.le_trans h.size k.size,fun i hi hs=>(k.block i hi).trans (h.block i hi hs)⟩
structure PrS (w W:World) (R b o c p:Nat) (zs:List Int) (u:Value) (fs:List El):Prop where
 on:Only (fun x=>x=R) w W
 rd:PrR W R b o zs.length c p
 row:OVt W w.heap.size u fs
 dp:Deep W w.heap.size fs
 rl:R<w.heap.size
theorem PrS.take {w W W':World} {R b o c p q:Nat} {zs:List Int} {u:Value} {fs:List El} (h:PrS w W R b o c p zs u fs) (hr:PrR W' R b o zs.length c q) (ho:Only (fun x=>x=R) W W'):PrS w W' R b o c q zs u fs:=by
 have hl:=h.rl;exact ⟨h.on.trans ho,hr,h.row.stay ho (fun k hk e=>by have:=(h.row.blk hk).1;omega),h.dp.stay ho (fun x hx k hk e=>by have:=((h.dp.mine x hx).rowE hk).1;omega),hl⟩
theorem PrS.more {w W w2 w3:World} {R b o c p:Nat} {zs:List Int} {u v':Value} {fs:List El} {e:El} {ob:Obj} (h:PrS w W R b o c p zs u fs) (hb:Below W.heap.size W w2) (hm:Mine w2 W.heap.size w2.heap.size e.a e.c e.ls) (hov:OVt w3 w.heap.size v' (fs++[e])) (hg:(w2.alloc ob).grownBy w3 u.ownBlock) :
  PrS w w3 R b o c p zs v' (fs++[e]):=by
 have hl:=h.rl;have hW:=h.on.size;have hba:Below w2.heap.size w2 (w2.alloc ob):=ba;have hb2:Below W.heap.size W (w2.alloc ob):=hb.trans (hba.mono hb.size);have hr2:=h.row.below hb2;have hd2:Deep (w2.alloc ob) w.heap.size (fs++[e]):=((h.dp.below hb).snoc (U:=W.heap.size) hm (fun x hx k hk=>h.dp.lt x hx k hk) (by omega)).below hba
 have hd3:Deep w3 w.heap.size (fs++[e]):=hd2.stay (Only.ofGrownT hg) (fun x hx k hk e=>hr2.other (hd2.mine x hx) e hk)
 have hbw:Below w.heap.size W w3:=(hb2.mono hW).grown hg (by have:=hb2.size;omega) (fun k hk=>(hr2.blk hk).1)
 exact ⟨h.on.thenBelow hbw,h.rd.keep hbw hl,hov,hd3,hl⟩
theorem z5b {zs:List Int} {m k:Nat} {fs:List El} (h:fs.map El.ct=(itL zs m k).map El.ct):fs.length=k:=by rw [z00 h,z0p]
theorem zi8 (R b o c m:Nat) (zs:List Int) (T:TypeId) (x:Value) (w:World) (hR:PrR w R b o zs.length c 6) (hB:PrB w R b o zs) (hn:zs.length=256) (hm:m<=255) (hL:c<=9223372036854775807) (hg:w.cell? ⟨8,0,none⟩=some (.iface T x)) (hgR:8≠R) (hgl:8<w.heap.size) :
  Calls Tryz.prog 150 #[.pointer (some ⟨R,0,none⟩),.int .i64 m] w fun e w'=>
   ((aP zs m m<=256/\∃ u fs,e=.returned u/\fs.map El.ct=(itL zs m m).map El.ct/\PrS w w' R b o c (aP zs m m) zs u fs)\/(256<aP zs m m/\e=.panicked [{ v:=.iface T x,recovered:=false }]/\Only (fun x=>x=R) w w')):=by
 have hl:=hR.lt
 by_cases h6:6+2*m<=256
 rotate_left
 ·have HT:=z5i R b o zs.length c 6 (2*m) T x w hR (by omega) hL (by omega) hg
  have HA:Hid (256<aP zs m m):=Nat.lt_of_lt_of_le (by omega) (z83 zs m m)
  clear hR hB hg
  go_enter Tryz.func150,Tryz.ntmps150
  go_wp2_with fail
  rw [show ((m:Int)*2)=((2*m:Nat):Int) by omega]
  refine HT.mono ?_;rintro e w1 ⟨rfl,rfl⟩;go_wp2;exact ⟨rfl,.inr ⟨HA.out,rfl,Only.refl _ _⟩⟩
 have HT:=z2l R b o zs.length c 6 (2*m) w hR (by omega) hL
 have HB:Hid (PrB w R b o zs/\zs.length=256/\w.cell? ⟨8,0,none⟩=some (.iface T x)):=⟨hB,hn,hg⟩;have HLC:Hid (6<c):=by have:=hR.lc;exact (by omega:6<c)
 clear hR hB hg
 go_enter Tryz.func150,Tryz.ntmps150
 go_wp2_with fail
 rw [show ((m:Int)*2)=((2*m:Nat):Int) by omega]
 refine HT.mono ?_;clear HT;rintro e w1 ⟨⟨q,rfl,hq⟩,hR1,ho1⟩;have hq1:=hq HLC.out;subst hq1;have HS0:Hid (PrS w w1 R b o c (aP zs m 0) zs (.slice none 0 0) []):=⟨ho1,hR1,OVt.nil _ _,Deep.nil _ _,hl⟩;clear hq hR1 ho1;go_wp2
 go_loopw [6,14] (fun u i wr=>∃ (k:Nat) (fs:List El),k<=m/\i=.int .i64 k/\fs.map El.ct=(itL zs m k).map El.ct/\aP zs m k<=256/\PrS w wr R b o c (aP zs m k) zs u fs) (fun _ i _=>m-(intOf i).toNat)
 case atStart=>exact ⟨0,[],Nat.zero_le _,rfl,rfl,by simp only [aP];omega,HS0.out⟩
 case round=>
  clear HS0;obtain ⟨k,fs,hk,rfl,hct,ha,hps⟩:=hrel;have HST:Hid (fs.map El.ct=(itL zs m k).map El.ct/\fs.length=k/\aP zs m k<=256):=⟨hct,z5b hct,ha⟩;clear hct;obtain ⟨fa,fc,rfl⟩:=hps.row.form;have HPS:Hid (PrS w wr R b o c (aP zs m k) zs (.slice fa fs.length fc) fs):=hps
  by_cases hlt:k<m
  ·have hbr:=HB.out.1.only hps.on
   have d0:=hbr.z (6+2*k) (by have:=HB.out.2.1;omega)
   have d1:=hbr.z (7+2*k) (by have:=HB.out.2.1;omega)
   have hbl:=hbr.lt;have r0:=zm hbr.r (6+2*k);have r1:=zm hbr.r (7+2*k);have HI:Hid (zs.getD (7+2*k) 0=(cN zs k:Nat)/\aP zs m (k+1)=aP zs m k+cN zs k/\itL zs m (k+1)=itL zs m k++[itE zs m k]):=⟨by unfold cN;omega,rfl,rfl⟩
   rw [HI.out.1] at d1 r1;have hcN:cN zs k<=255:=by omega
   have HA:Hid (aP zs m (k+1)<=aP zs m m):=zgl zs m (by omega)
   have x1:o+(6+2*k)=o+6+(k*2):=by omega
   have x2:o+(7+2*k)=o+6+(k*2+1):=by omega
   rw [x1] at d0;rw [x2] at d1;have HBR:Hid (PrB wr R b o zs):=hbr;have hk1:fs.length<=1000:=by have:=HST.out.2.1;omega
   have hz0:Hid (zs.getD (6+2*k) 0=(itE zs m k).n/\True):=⟨rfl,trivial⟩;rw [hz0.out.1] at d0 r0;clear hbr x1 x2 hps;generalize hy:cN zs k=y at *;have HY:Hid (cN zs k=y/\True):=⟨hy,trivial⟩;clear hy
   by_cases hfit:aP zs m k+y<=256
   rotate_left
   ·have hgw:=HPS.out.on.cell hgl hgR HB.out.2.2
    have HTN:=z5i R b o zs.length c (aP zs m k) y T x wr HPS.out.rd (by have:=HB.out.2.1;omega) hL (by omega) hgw
    have HF:Hid (256<aP zs m m/\Only (fun x=>x=R) w wr):=⟨by have:=HA.out;have h9:=HI.out.2.1;omega,HPS.out.on⟩
    clear hgw HPS HST;generalize (itE zs m k).n=sn at *;go_wp2_with fail
    refine HTN.mono ?_;rintro e w2 ⟨rfl,rfl⟩;go_wp2;exact ⟨rfl,.inr ⟨HF.out.1,rfl,HF.out.2⟩⟩
   have HTY:=z2l R b o zs.length c (aP zs m k) y wr HPS.out.rd (by have:=HB.out.2.1;omega) hL
   have HD:Hid (wr.cell? ⟨b,o+6+k*2,none⟩=some (.int .u8 (itE zs m k).n)/\True):=⟨d0,trivial⟩;have HEI:Hid (itE zs m k=⟨(itE zs m k).n,none,0,(itE zs m k).ls⟩/\(itE zs m k).ls=(zs.drop (aP zs m k)).take y/\(itE zs m k).ls.length=y):=⟨rfl,by rw [<-HY.out.1];rfl,by rw [z6a (by rw [HI.out.2.1];have:=HB.out.2.1;omega)];exact HY.out.1⟩
   generalize hsn:(itE zs m k).n=sn at *;generalize hsl:(itE zs m k).ls=sl at *;clear hsn hsl;go_wp2_with fail
   refine HTY.mono ?_;clear HTY;rintro e w2 ⟨⟨q,rfl,hq⟩,hR2,ho2⟩;have HP2:Hid (PrS w w2 R b o c (aP zs m (k+1)) zs (.slice fa fs.length fc) fs):=by rw [HI.out.2.1];exact HPS.out.take hR2 ho2
   have hb2:=HBR.out.only ho2;have d2:=ho2.cell hbl HBR.out.ne HD.out.1;have hby:Byt w2 (some ⟨b,q,none⟩) sl:=by
    refine ⟨fun z hz=>hb2.r z (by rw [HEI.out.2.1] at hz;exact List.mem_of_mem_drop (List.mem_of_mem_take hz)),fun h0=>⟨b,q,rfl,hb2.lt,fun i hi=>?_⟩⟩
    have hi2:i<y:=by rw [<-HEI.out.2.2];exact hi
    have hqq:=hq (by have:=HPS.out.rd.lc;have:=HB.out.2.1;omega)
    have:=hb2.z (aP zs m k+i) (by have:=HB.out.2.1;omega)
    rw [hqq,Nat.add_assoc,this,HEI.out.2.1]
    simp [List.getD_eq_getElem?_getD,List.getElem?_take,List.getElem?_drop,hi2]
   have hyl:y=sl.length:=HEI.out.2.2.symm;have hsl:sl.length<=255:=by omega
   subst hyl;have HBY:Hid (Byt w2 (some ⟨b,q,none⟩) sl):=hby;have hbl2:b<w2.heap.size:=hb2.lt;have HCN:=z0w (some ⟨b,q,none⟩) (c-aP zs m k) sl w2.drew (hby.drewN 1) (by omega)
   clear hby hq hR2 ho2 hb2 d0 d1 HPS HD;go_wp2;have hi0:IntKind.i64.wrap ((k:Int)*2)=(k:Int)*2:=IntWalk.i64_in _ (by omega)
   have hi1:0<=(k:Int)*2:=by omega
   have hi2:(k:Int)*2<2*(m:Int):=by omega
   have hi3:((k:Int)*2).toNat=k*2:=by omega
   have hi4:IntKind.i64.wrap sn=sn:=IntWalk.i64_in _ (by omega)
   refine zi (S:=fun W=>W.cell? ⟨b,o+6+k*2,none⟩=some (.int .u8 sn)) 12 (by kernel_rfl) (by kernel_rfl) (by exact d2) (fun hHeld=>?_)
   refine tk 0 ?_
   try simp only [tkS]
   refine tk 1 ?_
   try simp only [tkS]
   refine tk 2 ?_
   try simp only [tkS]
   refine tk 3 ?_
   try simp only [tkS]
   refine tk 4 ?_
   try simp only [tkS]
   refine tk 5 ?_
   try simp only [tkS]
   refine tk 6 ?_
   try simp only [tkS]
   refine tk 7 ?_
   try simp only [tkS]
   refine wpAnyH_ready (rs:=[8]) (by kernel_rfl) (by simp) ?_
   refine AllReadyH.cons rfl (fun K hK=>?_) AllReadyH.nil
   go_simp
   refine HCN.mono ?_;clear HCN;rintro e w3 ⟨⟨v3,rfl,hov3⟩,hb3'⟩;have hb3:Bw w2 w3:=Below.drewS hb3';obtain ⟨ua,uc,rfl,hm3⟩:=hov3.mine;have HM3:Hid (Mine w3 w2.heap.size w3.heap.size ua uc sl/\Bw w2 w3):=⟨hm3,hb3⟩;have d3:=keep hb3 hbl2 d2;have hbl3:b<w3.heap.size:=by have:=hb3.size;omega
   clear hm3 hb3 hov3 hb3'
   dsimp only
   refine hK.out _ _ (by exact d3) (fun hHeld=>?_)
   clear hK K
   try simp only [tkS]
   refine tk 9 ?_
   try simp only [tkS]
   refine wpAnyH_ready (rs:=[10]) (by kernel_rfl) (by simp) ?_
   refine AllReadyH.cons rfl (fun K hK=>?_) AllReadyH.nil
   go_simp
   refine hK.out _ _ (by exact ze _ hbl3 d3) (fun hHeld=>?_)
   clear hK K
   try simp only [tkS]
   refine wpAnyH_ready (rs:=[11]) (by kernel_rfl) (by simp) ?_
   refine AllReadyH.cons rfl (fun K hK=>?_) AllReadyH.nil
   refine z0i rfl (z2t (.tmp 26) (.tmp 36) rfl w.heap.size (.slice fa fs.length fc) fs (by simp [Act.eval]) ((HP2.out.row.below HM3.out.2).below ((Below.refl w3.heap.size w3).alloc nl _)) w3.heap.size 1 ⟨sn,ua,uc,sl⟩ (by simp [Act.eval]) (zh9 w3 sn _ sl.length uc 89 _ rfl rfl rfl rfl) (by omega) (by have h1:=HP2.out.on.size;have h2:=HM3.out.2.size;simp;omega) ?_)
   intro v4 w4 hov4 hg4
   obtain ⟨sa4,sc4,hv4⟩:=hov4.form;rw [List.length_append,List.length_singleton] at hv4;subst hv4;have HM:Hid (PrS w w4 R b o c (aP zs m (k+1)) zs (.slice sa4 (fs.length+1) sc4) (fs++[⟨sn,ua,uc,sl⟩])):=HP2.out.more (e:=⟨sn,ua,uc,sl⟩) HM3.out.2 HM3.out.1 hov4 hg4;have hne:¬(Value.slice fa fs.length fc).ownBlock=some b:=fun he=>by have h1:=(HP2.out.row.blk he).1;have h2:=HB.out.1.lt;omega
   have d4:=(Only.ofGrownT hg4).cell (b:=b) (o:=o+6+k*2) (by simp;omega) hne (ze _ hbl3 d3)
   clear hov4 hg4;refine hK.out _ _ (by exact d4) (fun hHeld=>?_)
   clear hK K
   try simp only [tkS]
   refine wpAnyH_done (by kernel_rfl) ?_ _
   simp only [z0g,List.drop_succ_cons,List.drop_zero]
   have HCT2:Hid ((fs++[(⟨sn,ua,uc,sl⟩:El)]).map El.ct=(itL zs m (k+1)).map El.ct/\aP zs m (k+1)<=256):=⟨by rw [List.map_append,HST.out.1,HI.out.2.2,HEI.out.1,List.map_append];rfl,by rw [HI.out.2.1];exact hfit⟩
   clear HM3 HP2 HST d2 d3 d4 HI;go_wp2;go_roundw
   case rel=>exact ⟨k+1,_,by omega,by go_num,HCT2.out.1,HCT2.out.2,HM.out⟩
   case measure=>simp [intOf];omega
  ·have hkn:k=m:=by omega
   subst hkn;clear hps;go_wp2;go_ret;exact .inl ⟨HST.out.2.2,_,fs,rfl,HST.out.1,HPS.out⟩
end Go.Proofs.YtkomjdjfknpinaaGreatDoor
