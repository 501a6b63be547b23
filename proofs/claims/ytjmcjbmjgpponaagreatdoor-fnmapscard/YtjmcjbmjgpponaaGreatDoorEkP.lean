import Derived.Test.YtjmcjbmjgpponaaGreatDoorEnT
set_option maxRecDepth 20000
set_option maxHeartbeats 16000000
namespace Go.Proofs.YtjmcjbmjgpponaaGreatDoor
open Go.RowKit
set_option linter.unusedVariables false
theorem zel (a:Option Addr) (cap:Nat) (zs:List Int) (n:Nat) (w:World) (hb:Ins w a zs) (ht:z0e zs n=true) :
  Calls Tryz.prog 91 #[.slice a zs.length cap,.int .i64 n] w fun e w'=>
   e=.returned (.slice (some ⟨w.heap.size,0,none⟩) n n)/\OwI w' w.heap.size w.heap.size n (zx zs n)/\Below w.heap.size w w':=by
 obtain ⟨i0,hi,hz0,hz1,hz2⟩:=info_parts Tryz.infoI64;obtain ⟨hn1,hn2,hn3⟩:=zlv ht;have HTX:Hid (z0e zs n=true):=ht;clear ht;generalize hlen:zs.length=L at *;have HL:Hid (zs.length=L):=hlen;clear hlen
 go_enter Tryz.func91,Tryz.ntmps91
 go_wp2_with (at_make;refine wpList_make_full _ rfl _ _ 57 rfl w.heap.size 3 i0 (.int .i64 0) 1 Tryz.underlying57 hi hz0 hz1 .i64 .i64 _ _ n rfl rfl rfl rfl (by rw [hz2];omega) (by unfold maxLen;omega) nl ?_;intro w1 hown hgrow)
 have h0:OwI w1 w.heap.size w.heap.size n (zx (zs.take 0) n):=by
  have e:zx (zs.take 0) n=List.replicate n 0:=by simp [zx]
  rw [e];refine ⟨?_,by intro z hz;simp at hz;omega⟩
  rw [z0n] at hown
  simpa using hown
 have hbw:Bw w w1:=(Below.refl _ _).grown hgrow nl (by intro k hk;cases hk)
 have H0:Hid (OwI w1 w.heap.size w.heap.size n (zx (zs.take 0) n)):=h0;clear h0 hown hgrow hi hz0 hz1 hz2
 go_loopw [6] (fun i wr=>∃ k:Nat,k<=L/\i=.int .i64 k/\OwI wr w.heap.size w.heap.size n (zx (zs.take k) n)/\Below w.heap.size w wr) (fun i _=>L-(intOf i).toNat)
 case atStart=>exact ⟨0,Nat.zero_le _,rfl,H0.out,hbw⟩
 case round=>
  obtain ⟨k,hk,rfl,hown,hbel⟩:=hrel;have HO:Hid (OwI wr w.heap.size w.heap.size n (zx (zs.take k) n)):=hown;clear hown hbw
  by_cases hlt:k<L
  ·obtain ⟨b,off,rfl,hbl,hcells⟩:=hb.len_pos k (by rw [HL.out];exact hlt)
   have hsrc:wr.cell? ⟨b,off+k,none⟩=some (.int .i64 (zs.getD k 0)):=(hbel.cell (p:=⟨b,off+k,none⟩) hbl).trans (hcells k (by rw [HL.out];exact hlt))
   have hx:=z18 HTX.out k (by rw [HL.out];exact hlt)
   have HST:Hid (zz (zx (zs.take k) n) (zs.getD k 0)=zx (zs.take (k+1)) n):=zag zs n k (by rw [HL.out];exact hlt)
   generalize hxx:zs.getD k 0=x at *;obtain ⟨x,rfl⟩:∃ j:Nat,x=j:=⟨x.toNat,by omega⟩
   have hdst:=HO.out.cell x (by rw [z0r];omega)
   have hfz:=HO.out.frozen x;have hv:0<=(zx (zs.take k) n).getD x 0/\(zx (zs.take k) n).getD x 0<=300:=by
    have:=zd2 (zs.take k) n _ (zp (zs:=zx (zs.take k) n) (k:=x) (by rw [z0r];omega))
    have h3:(zs.take k).length<=300:=by rw [List.length_take,HL.out];omega
    omega
   have R:=HO.out.store x ((zx (zs.take k) n).getD x 0+1) (by omega)
   have e:(zx (zs.take k) n).set x ((zx (zs.take k) n).getD x 0+1)=zx (zs.take (k+1)) n:=by rw [<-HST.out];simp [zz]
   rw [e] at R;generalize (zx (zs.take k) n).getD x 0=v at *;have HR:Hid (OwI (wr.setCell ⟨w.heap.size,x,none⟩ (.int .i64 (v+1))) w.heap.size w.heap.size n (zx (zs.take (k+1)) n)):=R;have HB:Hid (Bw w (wr.setCell ⟨w.heap.size,x,none⟩ (.int .i64 (v+1)))):=hbel.setCell (p:=⟨w.heap.size,x,none⟩) nl (.int .i64 (v+1));clear R e hcells hb hxx;go_wp2;go_roundw
   case rel=>exact ⟨k+1,by omega,by go_num,by simpa using HR.out,by simpa using HB.out⟩
   case measure=>simp [intOf];omega
  ·have hkn:k=L:=by omega
   subst hkn;have hall:=HO.out;rw [List.take_of_length_le (by rw [HL.out];exact Nat.le_refl _)] at hall
   have HA:Hid (OwI wr w.heap.size w.heap.size n (zx zs n)):=hall;clear hall;go_wp2;go_ret;exact ⟨rfl,HA.out,hbel⟩
set_option linter.unusedSimpArgs false
def Pc.sy :Pc->List Int
 | .coin s c=>[(s:Int)]
 | .pack a b n=>a.sy++b.sy
theorem z6g (p:Pc):p.sy.length=p.sz:=by
 induction p with
 | coin s c=>rfl
 | pack a b n iha ihb=>simp [Pc.sy,Pc.sz,iha,ihb]
structure Ek where
 p:Pc
 a:Option Addr
 c:Nat
def dek :Ek:=⟨dpc,none,0⟩
def Ek.cells (e:Ek):List Value:=[.int .i64 e.p.wt,.slice e.a e.p.sy.length e.c]
theorem z9p (es:List Ek) (i:Nat) (hi:i<es.length) (j:Nat) (hj:j<2):(es.flatMap Ek.cells)[i*2+j]?=((es.getD i dek).cells)[j]?:=by
 induction es generalizing i with
 | nil=>simp at hi
 | cons e es ih=>
  cases i with
  | zero=>
   simp only [List.flatMap_cons,Nat.zero_mul,Nat.zero_add]
   rw [List.getElem?_append_left (by simp [Ek.cells];exact hj)]
   rfl
  | succ i=>
   simp only [List.flatMap_cons]
   rw [List.getElem?_append_right (by simp [Ek.cells];omega)]
   have h:=ih i (by simpa using hi)
   rw [show (i+1)*2+j-e.cells.length=i*2+j by simp [Ek.cells];omega,h]
   rfl
theorem z6w (es:List Ek):(es.flatMap Ek.cells).length=es.length*2:=by
 induction es with
 | nil=>rfl
 | cons e es ih=>simp [List.flatMap_cons,ih,Ek.cells];omega
theorem zpl (es:List Ek):∀ u ∈ es.flatMap Ek.cells,u.oneCell'=true:=fun u hu=>by
 obtain ⟨e,_,he⟩:=List.mem_flatMap.1 hu
 simp only [Ek.cells,List.mem_cons,List.not_mem_nil,or_false] at he
 rcases he with rfl | rfl <;> rfl
def Eks (w:World) (a:Option Addr) (es:List Ek):Prop:=
 0<es.length->∃ b off,a=some ⟨b,off,none⟩/\b<w.heap.size/\∀ i,i<es.length->w.cell? ⟨b,off+i*2,none⟩=some (.int .i64 (es.getD i dek).p.wt)/\w.cell? ⟨b,off+i*2+1,none⟩=some (.slice (es.getD i dek).a (es.getD i dek).p.sy.length (es.getD i dek).c)
theorem Eks.below {w w':World} {a:Option Addr} {es:List Ek} (h:Eks w a es) (hb:Below w.heap.size w w'):Eks w' a es:=fun h0=>by
 obtain ⟨b,o,e,hl,hc⟩:=h h0;exact ⟨b,o,e,Nat.lt_of_lt_of_le hl hb.size,fun i hi=>⟨keep hb hl (hc i hi).1,keep hb hl (hc i hi).2⟩⟩
def OVk (w:World) (B:Nat) (v:Value) (es:List Ek):Prop:=w.ownsRow B 163 2 v es.length (es.flatMap Ek.cells)
theorem OVk.nil (w:World) (B:Nat):OVk w B (.slice none 0 0) []:=⟨rfl,.inl ⟨rfl,rfl⟩⟩
theorem OVk.slice {w:World} {B:Nat} {v:Value} {es:List Ek} (h:OVk w B v es):∃ a c,v=.slice a es.length c/\Eks w a es/\es.length<=c/\((a=none/\es=[]/\c=0)\/∃ g,a=some ⟨g,0,none⟩):=by
 rcases h.2 with ⟨rfl,h1⟩ | ⟨g,cap,cur,rfl,hg,hh,h4,h5,h6,h7⟩
 ·have:es=[]:=List.length_eq_zero_iff.1 h1
  subst this;exact ⟨none,0,rfl,fun h=>by simp at h,Nat.le_refl _,.inl ⟨rfl,rfl,rfl⟩⟩
 ·refine ⟨_,cap,rfl,fun h0=>⟨g,0,rfl,(Array.getElem?_eq_some_iff.1 hh).1,fun i hi=>?_⟩,h4,.inr ⟨g,rfl⟩⟩
  have e0:=z9p es i hi 0 (by omega)
  have e1:=z9p es i hi 1 (by omega)
  have c0:=World.ownsRow.cellAt h (i*2+0) (by omega)
  have c1:=World.ownsRow.cellAt h (i*2+1) (by omega)
  rw [e0] at c0;rw [e1] at c1
  simp only [Nat.zero_add,Nat.add_zero] at c0 c1 ⊢
  exact ⟨by rw [c0];rfl,by rw [c1];rfl⟩
theorem OVk.below {w w':World} {B:Nat} {v:Value} {es:List Ek} (h:OVk w B v es) (hb:Below w.heap.size w w'):OVk w' B v es:=by
 have hg:w.grownBy w' none:=⟨hb.os,hb.tape,hb.output,hb.size,fun k hk _=>hb.block k hk⟩
 exact World.ownsRow.kept h hg (by cases v.ownBlock <;> simp)
theorem OVk.tag {w:World} {B:Nat} {v:Value} {es:List Ek} (h:OVk w B v es) {k:Nat} (hk:v.ownBlock=some k):∃ cur,w.heap[k]?=some (.cells cur 163 (0,0)):=by
 rcases h.2 with ⟨rfl,_⟩ | ⟨g,cap,cur,rfl,hg,hh,r⟩
 ·simp [Value.ownBlock] at hk
 ·simp [Value.ownBlock] at hk
  subst hk;exact ⟨cur,hh⟩
theorem Tryz.infoEk :(Tryz.prog.info? 163).map (fun i=>(i.zero,i.size,i.bytes))=some (some (.agg #[.int .i64 0,.slice none 0 0]),2,32):=by kernel_rfl
theorem zbm {w:World} {ty:TypeId} {B:Nat} {v:Value} {es fs:List Ek} {a:Option Addr} {c:Nat} (h:OVk w B v es) (hq:Eks w a fs) (hl:es.length+fs.length<=100000) (hB:B<=w.heap.size) :
  ∃ v' w',(Builtin.append_ #[161,161] ty #[v,.slice a fs.length c]).run Tryz.prog w=.ok v' w'/\OVk w' B v' (es++fs)/\w.grownBy w' v.ownBlock/\(v'.ownBlock=v.ownBlock\/v'.ownBlock=some w.heap.size):=by
 obtain ⟨i0,hi,hz0,hz1,hz2⟩:=info_parts Tryz.infoEk;have h1:=Tryz.underlying161
 by_cases h0:fs.length=0
 ·obtain rfl:fs=[]:=List.length_eq_zero_iff.1 h0
  refine ⟨v,w,?_,by simpa using h,⟨rfl,rfl,rfl,Nat.le_refl _,fun _ _ _=>rfl⟩,.inl rfl⟩
  obtain ⟨a',c',rfl,_,hc,_⟩:=h.slice
  simp [Builtin.append_,run_underlying h1,sizeOf,typeInfo,hi,Builtin.lenOf,Builtin.firstCells,loadCells,loadCellsFrom,hc]
  cases a <;> cases a' <;> simp [Result.andThen,storeCells]
 ·obtain ⟨b,off,rfl,hbl,hc⟩:=hq (by omega)
  obtain ⟨v',w',hr,ho,hg,_,hat⟩:=run_append_own_at (P:=Tryz.prog) w B 161 ty 163 i0 _ 2 32 h1 hi hz0 hz1 hz2 rfl (by decide) v es.length (es.flatMap Ek.cells) h ⟨b,off,none⟩ fs.length c (fs.flatMap Ek.cells) (z6w fs) (by
   intro j u hu
   have hj:j<fs.length*2:=by rw [<-z6w fs];exact (List.getElem?_eq_some_iff.1 hu).1
   have h2:(⟨b,off,none⟩:Addr).add j=⟨b,off+j,none⟩:=by
    cases j with
    | zero=>simp [Addr.add]
    | succ j=>simp [Addr.add]
   rw [h2];have hcj:=hc (j / 2) (by omega)
   have hf:=z9p fs (j / 2) (by omega) (j % 2) (by omega)
   rw [show j / 2*2+j % 2=j by omega,hu] at hf
   rcases Nat.mod_two_eq_zero_or_one j with hm | hm
   ·rw [hm] at hf
    rw [show off+j=off+j / 2*2 by omega,hcj.1]
    simpa [Ek.cells] using hf.symm
   ·rw [hm] at hf
    rw [show off+j=off+j / 2*2+1 by omega,hcj.2]
    simpa [Ek.cells] using hf.symm) (zpl fs) (by unfold maxLen;omega) (by omega) hB
  refine ⟨v',w',hr,?_,hg,hat⟩;unfold OVk;rw [List.length_append,List.flatMap_append];exact ho
theorem z16 {o:Oper} {act:Act} {w:World} {K:Act->World->Prop} {Q:Exit->Act->World->Prop} (s x:Operand) (ho:o.op=.call { callee:=.builtin .append,args:=#[s,x],argTypes:=#[161,161] })
  {B:Nat} {v:Value} {es fs:List Ek} {a:Option Addr} {c n:Nat} (hs:act.eval s=v) (hx:act.eval x=.slice a n c) (hn:n=fs.length) (h:OVk w B v es) (hq:Eks w a fs) (hl:es.length+fs.length<=100000) (hB:B<=w.heap.size)
  (hk:∀ v' w',OVk w' B v' (es++fs)->w.grownBy w' v.ownBlock->(v'.ownBlock=v.ownBlock\/v'.ownBlock=some w.heap.size)->K (act.put o.dst v') w'):o.wp Tryz.prog act w K Q:=by
 subst hn;obtain ⟨v',w',hr,r1,r2,r3⟩:=zbm (ty:=o.type) (c:=c) h hq hl hB;unfold Oper.wp execOp
 simp only [ho,resolve,invoke,builtin,Sem.run_bind,Sem.run_pure,Result.andThen_ok,List.map_toArray,List.map_cons,List.map_nil,hs,hx,hr]
 exact hk v' w' r1 r2 r3
theorem z1a {ops:Array Oper} {rest:List Oper} {o:Oper} {act:Act} {w:World} {Q:Exit->Act->World->Prop} (hgd:o.guard=none) (s x:Operand) (ho:o.op=.call { callee:=.builtin .append,args:=#[s,x],argTypes:=#[161,161] })
  {B:Nat} {v:Value} {es fs:List Ek} {a:Option Addr} {c n:Nat} (hs:act.eval s=v) (hx:act.eval x=.slice a n c) (hn:n=fs.length) (h:OVk w B v es) (hq:Eks w a fs) (hl:es.length+fs.length<=100000) (hB:B<=w.heap.size)
  (hk:∀ v' w',OVk w' B v' (es++fs)->w.grownBy w' v.ownBlock->(v'.ownBlock=v.ownBlock\/v'.ownBlock=some w.heap.size)->wpList Tryz.prog ops Q rest (act.put o.dst v') w'):wpList Tryz.prog ops Q (o :: rest) act w:=by
 refine wpList_plain hgd fun K hK=>?_
 exact z16 s x ho hs hx hn h hq hl hB (fun v' w' r1 r2 r3=>hK _ _ (hk v' w' r1 r2 r3))
theorem zoi (w:World) (e:Ek):Eks (w.alloc (Obj.cells #[.int .i64 e.p.wt,.slice e.a e.p.sy.length e.c] 163)) (some ⟨w.heap.size,0,none⟩) [e]:=fun _=>
 ⟨w.heap.size,0,rfl,by simp,fun i hi=>by
  have hi0:i=0:=by simpa using hi
  subst hi0;exact ⟨z3b (heap_alloc_new w _) rfl,z3b (heap_alloc_new w _) rfl⟩⟩
def zr :List Ek->List Ek->List Ek
 | [],b=>b
 | a :: ar,[]=>a :: ar
 | a :: ar,b :: br=>if a.p.wt<=b.p.wt then a :: zr ar (b :: br) else b :: zr (a :: ar) br
termination_by a b=>a.length+b.length
theorem z8o :∀ a b,(zr a b).map Ek.p=mrg (a.map Ek.p) (b.map Ek.p)
 | [],b=>by rw [zr];simp [mrg]
 | a :: ar,[]=>by rw [zr];simp [mrg]
 | a :: ar,b :: br=>by
  rw [zr,List.map_cons,List.map_cons,mrg]
  split
  ·rw [List.map_cons,z8o ar (b :: br)]
   rfl
  ·rw [List.map_cons,z8o (a :: ar) br]
   rfl
termination_by a b=>a.length+b.length
theorem z85 :∀ a b,(zr a b).length=a.length+b.length
 | [],b=>by rw [zr];simp
 | a :: ar,[]=>by rw [zr];simp
 | a :: ar,b :: br=>by
  rw [zr]
  split
  ·rw [List.length_cons,z85 ar (b :: br)];simp;omega
  ·rw [List.length_cons,z85 (a :: ar) br];simp;omega
termination_by a b=>a.length+b.length
theorem z7o :∀ {a b:List Ek} {e:Ek},e ∈ zr a b->e ∈ a\/e ∈ b
 | [],b,e,h=>by rw [zr] at h;exact .inr h
 | a :: ar,[],e,h=>by rw [zr] at h;exact .inl h
 | a :: ar,b :: br,e,h=>by
  rw [zr] at h
  split at h
  ·rcases List.mem_cons.1 h with h | h
   ·exact .inl (by simp [h])
   ·rcases z7o h with h | h
    ·exact .inl (by simp [h])
    ·exact .inr h
  ·rcases List.mem_cons.1 h with h | h
   ·exact .inr (by simp [h])
   ·rcases z7o h with h | h
    ·exact .inl h
    ·exact .inr (by simp [h])
termination_by a b=>a.length+b.length
theorem z3y {l:List Ek} {i:Nat} (h:i<l.length):l.drop i=l.getD i dek :: l.drop (i+1):=by
 rw [List.drop_eq_getElem_cons h]
 simp [List.getD_eq_getElem?_getD,h]
theorem zjb {a b:List Ek} {i k:Nat} (hi:i<a.length) (h:b.length<=k\/(a.getD i dek).p.wt<=(b.getD k dek).p.wt):zr (a.drop i) (b.drop k)=a.getD i dek :: zr (a.drop (i+1)) (b.drop k):=by
 rw [z3y hi]
 by_cases hk:k<b.length
 ·rw [z3y hk,zr,if_pos (by omega)]
 ·rw [List.drop_eq_nil_of_le (show b.length<=k by omega),zr]
  cases a.drop (i+1) <;> rw [zr]
theorem zh7 {a b:List Ek} {i k:Nat} (hk:k<b.length) (h:a.length<=i\/¬(a.getD i dek).p.wt<=(b.getD k dek).p.wt):zr (a.drop i) (b.drop k)=b.getD k dek :: zr (a.drop i) (b.drop (k+1)):=by
 rw [z3y hk]
 by_cases hi:i<a.length
 ·rw [z3y hi,zr,if_neg (by omega)]
 ·rw [List.drop_eq_nil_of_le (show a.length<=i by omega),zr,zr]
def Ekc (e:Ek) (u:Nat) (ea:Option Addr) (el ec:Nat):Prop:=u=e.p.wt/\ea=e.a/\el=e.p.sy.length/\ec=e.c
theorem Eks.read {w wr:World} {a:Option Addr} {es:List Ek} (h:Eks w a es) (hb:Below w.heap.size w wr) (i:Nat) (hi:i<es.length):∃ b o u ea el ec,a=some ⟨b,o,none⟩/\b<wr.heap.size/\wr.cell? ⟨b,o+i*2,none⟩=some (.int .i64 (u:Nat))/\wr.cell? ⟨b,o+i*2+1,none⟩=some (.slice ea el ec)/\Ekc (es.getD i dek) u ea el ec:=by
 obtain ⟨b,o,e,hl,hc⟩:=h (by omega)
 exact ⟨b,o,_,_,_,_,e,Nat.lt_of_lt_of_le hl hb.size,keep hb hl (hc i hi).1,keep hb hl (hc i hi).2,rfl,rfl,rfl,rfl⟩
theorem z3i (w:World) {e:Ek} {u:Nat} {ea:Option Addr} {el ec:Nat} (h:Ekc e u ea el ec):Eks (w.alloc (Obj.cells #[.int .i64 u,.slice ea el ec] 163)) (some ⟨w.heap.size,0,none⟩) [e]:=by
 obtain ⟨rfl,rfl,rfl,rfl⟩:=h;exact zoi w e
theorem zez (a1 a2:Option Addr) (c1 c2:Nat) (es fs:List Ek) (w:World) (h1:Eks w a1 es) (h2:Eks w a2 fs) (hl:es.length+fs.length<=90000) :
  Calls Tryz.prog 120 #[.slice a1 es.length c1,.slice a2 fs.length c2] w fun e w'=>∃ v,e=.returned v/\OVk w' w.heap.size v (zr es fs)/\Below w.heap.size w w':=by
 have HY:Hid (Eks w a1 es/\Eks w a2 fs):=⟨h1,h2⟩;have HLEN:Hid (es.length+fs.length<=90000/\(zr es fs).length=es.length+fs.length):=⟨hl,z85 es fs⟩;have hne:es.length<=90000:=by omega
 have hnf:fs.length<=90000:=by omega
 have HML:Hid (∀ i k,i<es.length->(fs.length<=k\/(es.getD i dek).p.wt<=(fs.getD k dek).p.wt)->zr (es.drop i) (fs.drop k)=es.getD i dek :: zr (es.drop (i+1)) (fs.drop k)):=fun i k=>zjb
 have HMR:Hid (∀ i k,k<fs.length->(es.length<=i\/¬(es.getD i dek).p.wt<=(fs.getD k dek).p.wt)->zr (es.drop i) (fs.drop k)=fs.getD k dek :: zr (es.drop i) (fs.drop (k+1))):=fun i k=>zh7
 have HD0:Hid ([]++zr (es.drop 0) (fs.drop 0)=zr es fs/\∀ i k,es.length<=i->fs.length<=k->zr (es.drop i) (fs.drop k)=[]):=⟨by simp,fun i k hi hk=>by rw [List.drop_eq_nil_of_le hi,List.drop_eq_nil_of_le hk,zr]⟩
 clear h1 h2 hl;obtain ⟨n,hn⟩:∃ n,n=es.length:=⟨_,rfl⟩;obtain ⟨m,hm⟩:∃ m,m=fs.length:=⟨_,rfl⟩;rw [<-hn,<-hm] at HLEN ⊢;rw [<-hn] at hne HML HD0 HMR;rw [<-hm] at hnf HML HMR HD0;have HNM:Hid (n=es.length/\m=fs.length):=⟨hn,hm⟩;clear hn hm
 go_enter Tryz.func120,Tryz.ntmps120
 go_wp2
 go_loopw [5,6,7] (fun ov iv kv W=>∃ (i k:Nat) (ds:List Ek),i<=n/\k<=m/\iv=.int .i64 i/\kv=.int .i64 k/\OVk W w.heap.size ov ds/\ds++zr (es.drop i) (fs.drop k)=zr es fs/\Below w.heap.size w W) (fun _ iv kv _=>(n-(intOf iv).toNat)+(m-(intOf kv).toNat))
 case atStart=>exact ⟨0,0,[],Nat.zero_le _,Nat.zero_le _,rfl,rfl,OVk.nil _ _,HD0.out.1,Below.refl _ _⟩
 case round=>
  obtain ⟨i,k,ds,hi,hk,rfl,rfl,hov,hds,hbel⟩:=hrel;have hdl:ds.length<=n+m:=by
   have h:=congrArg List.length hds;rw [List.length_append] at h;have:=HLEN.out.2
   omega
  have HR:Hid (OVk wr w.heap.size u5 ds/\ds++zr (es.drop i) (fs.drop k)=zr es fs/\Bw w wr):=⟨hov,hds,hbel⟩;obtain ⟨oa,oc,hov5,-,-,-⟩:=hov.slice;subst hov5;obtain ⟨D,hD⟩:∃ D,D=ds.length:=⟨_,rfl⟩;rw [<-hD] at HR hdl ⊢;have HDL:Hid (D=ds.length/\True):=⟨hD,trivial⟩;clear hov hds hbel hD
  by_cases hkm:k<m
  ·obtain ⟨b2,o2,u2,ea2,el2,ec2,rfl,hb2,cA2,cB2,hE2⟩:=HY.out.2.read HR.out.2.2 k (by have:=HNM.out.2;omega)
   obtain ⟨E2,hEE2⟩:∃ E,E=fs.getD k dek:=⟨(fs.getD k dek),rfl⟩;rw [<-hEE2] at hE2;have HEE2:Hid (E2=fs.getD k dek/\u2=(fs.getD k dek).p.wt):=⟨hEE2,by rw [<-hEE2];exact hE2.1⟩
   have HE2:Hid (Ekc E2 u2 ea2 el2 ec2):=hE2;clear hE2 hEE2;have hkm2:(k:Int)<(m:Int):=by omega
   have hkm3:¬(m:Int)<=(k:Int):=by omega
   have dk:decide ((m:Int)<=(k:Int))=false:=decide_eq_false hkm3
   by_cases hin:i<n
   ·obtain ⟨b1,o1,u1,ea1,el1,ec1,rfl,hb1,cA1,cB1,hE1⟩:=HY.out.1.read HR.out.2.2 i (by have:=HNM.out.1;omega)
    obtain ⟨E1,hEE1⟩:∃ E,E=es.getD i dek:=⟨(es.getD i dek),rfl⟩;rw [<-hEE1] at hE1;have HEE1:Hid (E1=es.getD i dek/\u1=(es.getD i dek).p.wt):=⟨hEE1,by rw [<-hEE1];exact hE1.1⟩
    have HE1:Hid (Ekc E1 u1 ea1 el1 ec1):=hE1;clear hE1 hEE1;have hin2:(i:Int)<(n:Int):=by omega
    have di:decide ((i:Int)<(n:Int))=true:=decide_eq_true hin2
    by_cases hw:u1<=u2
    ·have hw2:(u1:Int)<=(u2:Int):=by omega
     have dw:decide ((u1:Int)<=(u2:Int))=true:=decide_eq_true hw2;have HST:Hid ((ds++[E1])++zr (es.drop (i+1)) (fs.drop k)=zr es fs/\True):=by
      refine ⟨?_,trivial⟩;have h:=HR.out.2.1;rw [HML.out i k hin (.inr (by rw [<-HEE1.out.2,<-HEE2.out.2];exact hw)),<-HEE1.out.1] at h
      rw [<-h,List.append_assoc]
      rfl
     go_wp2
     go_quiet (fail)
     have H4:Hid (OVk (wr.drewN nq) w.heap.size (.slice oa D oc) ds/\Bw w (wr.drewN nq)):=⟨HR.out.1,⟨HR.out.2.2.os,HR.out.2.2.tape,HR.out.2.2.output,HR.out.2.2.size,HR.out.2.2.block⟩⟩;have x0:(wr.drewN nq).cell? ⟨b1,o1+i*2,none⟩=some (.int .i64 (u1:Nat)):=cA1;have x1:(wr.drewN nq).cell? ⟨b1,o1+i*2+1,none⟩=some (.slice ea1 el1 ec1):=cB1;generalize wr.drewN nq=W4 at *;have HY4:Hid (OVk (W4.alloc (Obj.cells #[.int .i64 (u1:Nat),.slice ea1 el1 ec1] 163)) w.heap.size (.slice oa D oc) ds/\Eks (W4.alloc (Obj.cells #[.int .i64 (u1:Nat),.slice ea1 el1 ec1] 163)) (some ⟨W4.heap.size,0,none⟩) [E1]/\w.heap.size<=(W4.alloc (Obj.cells #[.int .i64 (u1:Nat),.slice ea1 el1 ec1] 163)).heap.size/\Bw w (W4.alloc (Obj.cells #[.int .i64 (u1:Nat),.slice ea1 el1 ec1] 163))):=⟨H4.out.1.below ((Below.refl _ _).alloc nl _),z3i W4 HE1.out,by have:=H4.out.2.size;simp;omega,H4.out.2.alloc H4.out.2.size _⟩
     go_wp2_with (at_builtin;(refine z1a (v:=.slice oa D oc) (es:=ds) (fs:=[E1]) rfl (.tmp 41) (.tmp 46) rfl rfl rfl rfl HY4.out.1 HY4.out.2.1 (show ds.length+1<=100000 by rw [<-HDL.out.1];have:=HLEN.out.1;omega) HY4.out.2.2.1 ?_;intro v9 w9 hov9 hg9 hat9;have H9:Hid (OVk w9 w.heap.size v9 (ds++[E1])/\Below w.heap.size w w9):=⟨hov9,HY4.out.2.2.2.grown hg9 HY4.out.2.2.1 (fun j hj=>(World.ownsRow.lt HY4.out.1 j hj).1)⟩;clear hov9 hg9 hat9))
     go_roundw
     case rel=>exact ⟨i+1,k,ds++[E1],by omega,by omega,by first | rfl | go_num,by first | rfl | go_num,H9.out.1,HST.out.1,H9.out.2⟩
     case measure=>simp [intOf];omega
    ·have hw2:¬(u1:Int)<=(u2:Int):=by omega
     have dw:decide ((u1:Int)<=(u2:Int))=false:=decide_eq_false hw2;have HST:Hid ((ds++[E2])++zr (es.drop i) (fs.drop (k+1))=zr es fs/\True):=by
      refine ⟨?_,trivial⟩;have h:=HR.out.2.1;rw [HMR.out i k hkm (.inr (by rw [<-HEE1.out.2,<-HEE2.out.2];exact hw)),<-HEE2.out.1] at h
      rw [<-h,List.append_assoc]
      rfl
     go_wp2
     go_quiet (fail)
     have H4:Hid (OVk (wr.drewN nq) w.heap.size (.slice oa D oc) ds/\Bw w (wr.drewN nq)):=⟨HR.out.1,⟨HR.out.2.2.os,HR.out.2.2.tape,HR.out.2.2.output,HR.out.2.2.size,HR.out.2.2.block⟩⟩;have x0:(wr.drewN nq).cell? ⟨b2,o2+k*2,none⟩=some (.int .i64 (u2:Nat)):=cA2;have x1:(wr.drewN nq).cell? ⟨b2,o2+k*2+1,none⟩=some (.slice ea2 el2 ec2):=cB2;generalize wr.drewN nq=W4 at *;have HY4:Hid (OVk (W4.alloc (Obj.cells #[.int .i64 (u2:Nat),.slice ea2 el2 ec2] 163)) w.heap.size (.slice oa D oc) ds/\Eks (W4.alloc (Obj.cells #[.int .i64 (u2:Nat),.slice ea2 el2 ec2] 163)) (some ⟨W4.heap.size,0,none⟩) [E2]/\w.heap.size<=(W4.alloc (Obj.cells #[.int .i64 (u2:Nat),.slice ea2 el2 ec2] 163)).heap.size/\Bw w (W4.alloc (Obj.cells #[.int .i64 (u2:Nat),.slice ea2 el2 ec2] 163))):=⟨H4.out.1.below ((Below.refl _ _).alloc nl _),z3i W4 HE2.out,by have:=H4.out.2.size;simp;omega,H4.out.2.alloc H4.out.2.size _⟩
     go_wp2_with (at_builtin;(refine z1a (v:=.slice oa D oc) (es:=ds) (fs:=[E2]) rfl (.tmp 50) (.tmp 55) rfl rfl rfl rfl HY4.out.1 HY4.out.2.1 (show ds.length+1<=100000 by rw [<-HDL.out.1];have:=HLEN.out.1;omega) HY4.out.2.2.1 ?_;intro v9 w9 hov9 hg9 hat9;have H9:Hid (OVk w9 w.heap.size v9 (ds++[E2])/\Below w.heap.size w w9):=⟨hov9,HY4.out.2.2.2.grown hg9 HY4.out.2.2.1 (fun j hj=>(World.ownsRow.lt HY4.out.1 j hj).1)⟩;clear hov9 hg9 hat9))
     go_roundw
     case rel=>exact ⟨i,k+1,ds++[E2],by omega,by omega,by first | rfl | go_num,by first | rfl | go_num,H9.out.1,HST.out.1,H9.out.2⟩
     case measure=>simp [intOf];omega
   ·have hin2:¬(i:Int)<(n:Int):=by omega
    have di:decide ((i:Int)<(n:Int))=false:=decide_eq_false hin2;have HST:Hid ((ds++[E2])++zr (es.drop i) (fs.drop (k+1))=zr es fs/\True):=by
     refine ⟨?_,trivial⟩;have h:=HR.out.2.1;rw [HMR.out i k hkm (.inl (by omega)),<-HEE2.out.1] at h
     rw [<-h,List.append_assoc]
     rfl
    go_wp2_with fail
    have dkN:decide (m<=k)=false:=decide_eq_false (by omega)
    have diN:decide (i<n)=false:=decide_eq_false (by omega)
    clear hkm2 hkm3 hin2;refine zj (S:=fun _=>True) 23 (by kernel_rfl) (by kernel_rfl) (by exact trivial) (fun hHeld=>?_)
    refine tk 0 ?_
    try simp only [tkS]
    refine tk 1 ?_
    try simp only [tkS]
    refine tk 2 ?_
    try simp only [tkS]
    refine tk 3 ?_
    try simp only [tkS]
    refine tk 4 ?_
    try simp only [tkS]
    refine tk 5 ?_
    try simp only [tkS]
    refine tk 6 ?_
    try simp only [tkS]
    refine tk 7 ?_
    try simp only [tkS]
    refine tk 8 ?_
    try simp only [tkS]
    refine tk 9 ?_
    try simp only [tkS]
    refine tu 10 ?_
    try simp only [tkS]
    refine tu 11 ?_
    try simp only [tkS]
    refine tu 12 ?_
    try simp only [tkS]
    refine tu 13 ?_
    try simp only [tkS]
    refine tu 14 ?_
    try simp only [tkS]
    refine tu 15 ?_
    try simp only [tkS]
    refine tu 16 ?_
    try simp only [tkS]
    refine tu 17 ?_
    try simp only [tkS]
    refine tu 18 ?_
    try simp only [tkS]
    refine tu 19 ?_
    try simp only [tkS]
    refine tu 20 ?_
    try simp only [tkS]
    refine tk 21 ?_
    try simp only [tkS]
    refine tk 22 ?_
    try simp only [tkS]
    refine wpAnyH_done (by kernel_rfl) ?_ _
    simp only [z0d,List.drop_succ_cons,List.drop_zero]
    clear hHeld;have H4:Hid (OVk (wr.drew) w.heap.size (.slice oa D oc) ds/\Bw w (wr.drew)):=⟨HR.out.1,⟨HR.out.2.2.os,HR.out.2.2.tape,HR.out.2.2.output,HR.out.2.2.size,HR.out.2.2.block⟩⟩;have x0:(wr.drew).cell? ⟨b2,o2+k*2,none⟩=some (.int .i64 (u2:Nat)):=cA2;have x1:(wr.drew).cell? ⟨b2,o2+k*2+1,none⟩=some (.slice ea2 el2 ec2):=cB2;generalize wr.drew=W4 at *;have HY4:Hid (OVk (W4.alloc (Obj.cells #[.int .i64 (u2:Nat),.slice ea2 el2 ec2] 163)) w.heap.size (.slice oa D oc) ds/\Eks (W4.alloc (Obj.cells #[.int .i64 (u2:Nat),.slice ea2 el2 ec2] 163)) (some ⟨W4.heap.size,0,none⟩) [E2]/\w.heap.size<=(W4.alloc (Obj.cells #[.int .i64 (u2:Nat),.slice ea2 el2 ec2] 163)).heap.size/\Bw w (W4.alloc (Obj.cells #[.int .i64 (u2:Nat),.slice ea2 el2 ec2] 163))):=⟨H4.out.1.below ((Below.refl _ _).alloc nl _),z3i W4 HE2.out,by have:=H4.out.2.size;simp;omega,H4.out.2.alloc H4.out.2.size _⟩
    go_wp2_with (at_builtin;(refine z1a (v:=.slice oa D oc) (es:=ds) (fs:=[E2]) rfl (.tmp 50) (.tmp 55) rfl rfl rfl rfl HY4.out.1 HY4.out.2.1 (show ds.length+1<=100000 by rw [<-HDL.out.1];have:=HLEN.out.1;omega) HY4.out.2.2.1 ?_;intro v9 w9 hov9 hg9 hat9;have H9:Hid (OVk w9 w.heap.size v9 (ds++[E2])/\Below w.heap.size w w9):=⟨hov9,HY4.out.2.2.2.grown hg9 HY4.out.2.2.1 (fun j hj=>(World.ownsRow.lt HY4.out.1 j hj).1)⟩;clear hov9 hg9 hat9))
    go_roundw
    case rel=>exact ⟨i,k+1,ds++[E2],by omega,by omega,by first | rfl | go_num,by first | rfl | go_num,H9.out.1,HST.out.1,H9.out.2⟩
    case measure=>simp [intOf];omega
  ·have hkm2:¬(k:Int)<(m:Int):=by omega
   have hkm3:(m:Int)<=(k:Int):=by omega
   have dk:decide ((m:Int)<=(k:Int))=true:=decide_eq_true hkm3
   by_cases hin:i<n
   ·obtain ⟨b1,o1,u1,ea1,el1,ec1,rfl,hb1,cA1,cB1,hE1⟩:=HY.out.1.read HR.out.2.2 i (by have:=HNM.out.1;omega)
    obtain ⟨E1,hEE1⟩:∃ E,E=es.getD i dek:=⟨(es.getD i dek),rfl⟩;rw [<-hEE1] at hE1;have HEE1:Hid (E1=es.getD i dek/\u1=(es.getD i dek).p.wt):=⟨hEE1,by rw [<-hEE1];exact hE1.1⟩
    have HE1:Hid (Ekc E1 u1 ea1 el1 ec1):=hE1;clear hE1 hEE1;have hin2:(i:Int)<(n:Int):=by omega
    have HST:Hid ((ds++[E1])++zr (es.drop (i+1)) (fs.drop k)=zr es fs/\True):=by
     refine ⟨?_,trivial⟩;have h:=HR.out.2.1;rw [HML.out i k hin (.inl (by omega)),<-HEE1.out.1] at h
     rw [<-h,List.append_assoc]
     rfl
    go_wp2
    go_quiet (fail)
    have H4:Hid (OVk (wr.drewN nq) w.heap.size (.slice oa D oc) ds/\Bw w (wr.drewN nq)):=⟨HR.out.1,⟨HR.out.2.2.os,HR.out.2.2.tape,HR.out.2.2.output,HR.out.2.2.size,HR.out.2.2.block⟩⟩;have x0:(wr.drewN nq).cell? ⟨b1,o1+i*2,none⟩=some (.int .i64 (u1:Nat)):=cA1;have x1:(wr.drewN nq).cell? ⟨b1,o1+i*2+1,none⟩=some (.slice ea1 el1 ec1):=cB1;generalize wr.drewN nq=W4 at *;have HY4:Hid (OVk (W4.alloc (Obj.cells #[.int .i64 (u1:Nat),.slice ea1 el1 ec1] 163)) w.heap.size (.slice oa D oc) ds/\Eks (W4.alloc (Obj.cells #[.int .i64 (u1:Nat),.slice ea1 el1 ec1] 163)) (some ⟨W4.heap.size,0,none⟩) [E1]/\w.heap.size<=(W4.alloc (Obj.cells #[.int .i64 (u1:Nat),.slice ea1 el1 ec1] 163)).heap.size/\Bw w (W4.alloc (Obj.cells #[.int .i64 (u1:Nat),.slice ea1 el1 ec1] 163))):=⟨H4.out.1.below ((Below.refl _ _).alloc nl _),z3i W4 HE1.out,by have:=H4.out.2.size;simp;omega,H4.out.2.alloc H4.out.2.size _⟩
    go_wp2_with (at_builtin;(refine z1a (v:=.slice oa D oc) (es:=ds) (fs:=[E1]) rfl (.tmp 41) (.tmp 46) rfl rfl rfl rfl HY4.out.1 HY4.out.2.1 (show ds.length+1<=100000 by rw [<-HDL.out.1];have:=HLEN.out.1;omega) HY4.out.2.2.1 ?_;intro v9 w9 hov9 hg9 hat9;have H9:Hid (OVk w9 w.heap.size v9 (ds++[E1])/\Below w.heap.size w w9):=⟨hov9,HY4.out.2.2.2.grown hg9 HY4.out.2.2.1 (fun j hj=>(World.ownsRow.lt HY4.out.1 j hj).1)⟩;clear hov9 hg9 hat9))
    go_roundw
    case rel=>exact ⟨i+1,k,ds++[E1],by omega,by omega,by first | rfl | go_num,by first | rfl | go_num,H9.out.1,HST.out.1,H9.out.2⟩
    case measure=>simp [intOf];omega
   ·have hin2:¬(i:Int)<(n:Int):=by omega
    have HE:Hid (OVk wr w.heap.size (.slice oa D oc) (zr es fs)/\Bw w wr):=by
     have h:=HR.out.2.1;rw [HD0.out.2 i k (by omega) (by omega),List.append_nil] at h
     rw [<-h];exact ⟨HR.out.1,HR.out.2.2⟩
    go_wp2
    go_ret;exact ⟨_,rfl,HE.out.1,HE.out.2⟩
def EkSy (w:World) (M:Nat) (es:List Ek):Prop:=∀ e ∈ es,∃ b cur,e.a=some ⟨b,0,none⟩/\M<b/\e.p.sy.length<=e.c/\w.heap[b]?=some (.cells cur 3 (0,0))/\∀ i,i<e.p.sy.length->cur[i]?=some (.int .i64 (e.p.sy.getD i 0))
theorem EkSy.only {S:Nat->Prop} {w w':World} {M:Nat} {es:List Ek} (h:EkSy w M es) (ho:Only S w w') (hS:∀ k,S k->k<=M\/∃ cur T,w.heap[k]?=some (.cells cur T (0,0))/\T≠3):EkSy w' M es:=fun e he=>by
 obtain ⟨b,cur,h1,h2,h3,h4,h5⟩:=h e he;refine ⟨b,cur,h1,h2,h3,(ho.block b (Array.getElem?_eq_some_iff.1 h4).1 (fun hs=>?_)).trans h4,h5⟩
 rcases hS b hs with h | ⟨cur',T,hc,hT⟩
 ·omega
 ·rw [h4] at hc
  simp at hc
  exact hT hc.2.symm
theorem EkSy.below {w w':World} {M:Nat} {es:List Ek} (h:EkSy w M es) (hb:Below w.heap.size w w'):EkSy w' M es:=h.only (Only.ofBelow (S:=fun _=>False) hb nl) (by simp)
theorem EkSy.ins {w:World} {M:Nat} {es:List Ek} (h:EkSy w M es) {e:Ek} (he:e ∈ es) (hr:∀ z ∈ e.p.sy,-9223372036854775808<=z/\z<=9223372036854775807):Ins w e.a e.p.sy:=by
 obtain ⟨b,cur,h1,h2,h3,h4,h5⟩:=h e he;refine ⟨hr,fun _=>⟨b,0,h1,(Array.getElem?_eq_some_iff.1 h4).1,fun i hi=>?_⟩⟩
 rw [Nat.zero_add];exact z3b h4 (h5 i hi)
theorem zfx (w:World) {e:Ek} {u:Nat} {ea:Option Addr} {el ec:Nat} (h:Ekc e u ea el ec):OVk (w.alloc (Obj.cells #[.int .i64 u,.slice ea el ec] 163)) w.heap.size (.slice (some ⟨w.heap.size,0,none⟩) 1 1) [e]:=by
 obtain ⟨rfl,rfl,rfl,rfl⟩:=h;exact ⟨rfl,.inr ⟨w.heap.size,1,_,rfl,Nat.le_refl _,heap_alloc_new w _,Nat.le_refl _,by decide,rfl,rfl⟩⟩
theorem OVk.take {w:World} {B:Nat} {a:Option Addr} {n c:Nat} {es:List Ek} (h:OVk w B (.slice a n c) es) (k:Nat) (hk:k<=es.length):OVk w B (.slice a k c) (es.take k):=by
 have hl:(es.take k).length=k:=by rw [List.length_take];omega
 rcases h.2 with ⟨e,h1⟩ | ⟨g,cap,cur,e,hg,hh,h4,h5,h6,h7⟩
 ·simp only [Value.slice.injEq] at e
  obtain ⟨rfl,-,rfl⟩:=e;have hk0:k=0:=by omega
  subst hk0;exact ⟨by rw [List.take_zero];rfl,.inl ⟨rfl,by rw [List.take_zero];rfl⟩⟩
 ·simp only [Value.slice.injEq] at e
  obtain ⟨rfl,-,rfl⟩:=e;refine ⟨z6w _,.inr ⟨g,c,cur,by rw [hl],hg,hh,by rw [hl];omega,h5,h6,?_⟩⟩
  rw [hl];have e1:es.flatMap Ek.cells=(es.take k).flatMap Ek.cells++(es.drop k).flatMap Ek.cells:=by rw [<-List.flatMap_append,List.take_append_drop]
  have e2:cur.toList.take (k*2)=(cur.toList.take (es.length*2)).take (k*2):=by rw [List.take_take,Nat.min_eq_left (by omega)]
  rw [e2,h7,e1];have e3:((es.take k).flatMap Ek.cells).length=k*2:=by rw [z6w,hl]
  rw [<-e3,List.take_left]
theorem Eks.drop {w:World} {a:Option Addr} {c:Nat} {es:List Ek} (h:Eks w a es) (k:Nat) (hk:k<=es.length) (hc:es.length<=c):Eks w (if c=k then a else a.map (·.add (k*2))) (es.drop k):=fun h0=>by
 rw [List.length_drop] at h0;obtain ⟨b,o,rfl,hl,hcl⟩:=h (by omega)
 rw [if_neg (by omega)]
 refine ⟨b,o+k*2,by cases k <;> simp [Addr.add],hl,fun i hi=>?_⟩
 rw [List.length_drop] at hi;have h1:=hcl (k+i) (by omega)
 have e:(es.drop k).getD i dek=es.getD (k+i) dek:=by simp [List.getD_eq_getElem?_getD]
 rw [e,show o+k*2+i*2=o+(k+i)*2 by omega]
 exact h1
structure CoI (w W:World) (N n:Nat) (zs:List Int) (v:Value) (es:List Ek):Prop where
 row:OVk W (N+1) v es
 sy:EkSy W N es
 out:OwI W N N n (List.replicate zs.length 0)
 bel:Below N w W
theorem CoI.drewN {w W:World} {N n:Nat} {zs:List Int} {v:Value} {es:List Ek} (h:CoI w W N n zs v es) (q:Nat):CoI w (W.drewN q) N n zs v es:=⟨h.row,h.sy,h.out,⟨h.bel.os,h.bel.tape,h.bel.output,h.bel.size,h.bel.block⟩⟩
theorem CoI.more {w V w1 w2:World} {N n D k i z cc:Nat} {zs:List Int} {ca:Option Addr} {v2:Value} {es:List Ek} {o:Obj} (h:CoI w V N n zs (.slice ca D cc) es) (hk:k<=es.length)
  (hg1:((V.alloc (Obj.cells #[.int .i64 i] 3)).alloc o).grownBy w1 (some (V.heap.size+1)))
  (hv2:OVk w2 (N+1) v2 (es.take k++([⟨.coin i z,some ⟨V.heap.size,0,none⟩,1⟩]++es.drop k))) (hg2:w1.grownBy w2 (Value.slice ca k cc).ownBlock) :
  CoI w w2 N n zs v2 (es.take k++([⟨.coin i z,some ⟨V.heap.size,0,none⟩,1⟩]++es.drop k)):=by
 have hN:=h.out.lt.2;have hb2:Bw V ((V.alloc (Obj.cells #[.int .i64 i] 3)).alloc o):=((Below.refl _ _).alloc nl _).alloc (by simp) _
 have hb3:Bw V w1:=hb2.grown hg1 (by simp;omega) (fun j hj=>by cases hj;omega)
 have hon:Only (fun b=>(Value.slice ca k cc).ownBlock=some b) V w2:=(Only.ofBelow (S:=fun b=>(Value.slice ca k cc).ownBlock=some b) hb3 nl).grown hg2 (fun b hb=>.inl hb)
 have hcb:∀ b,(Value.slice ca k cc).ownBlock=some b->N<b/\∃ cur,V.heap[b]?=some (.cells cur 163 (0,0)):=fun b hb=>by
  have hb':(Value.slice ca D cc).ownBlock=some b:=by
   cases ca with
   | none=>simp [Value.ownBlock] at hb
   | some x=>exact hb
  exact ⟨(World.ownsRow.lt h.row b hb').1,h.row.tag hb'⟩
 have hsy:EkSy w2 N es:=h.sy.only hon (fun b hb=>by
  obtain ⟨_,cur,hc⟩:=hcb b hb;exact .inr ⟨cur,_,hc,by decide⟩)
 have hnew:(V.alloc (Obj.cells #[.int .i64 i] 3)).heap[V.heap.size]?=some (.cells #[.int .i64 i] 3 (0,0)):=heap_alloc_new V _;have hnew2:((V.alloc (Obj.cells #[.int .i64 i] 3)).alloc o).heap[V.heap.size]?=some (.cells #[.int .i64 i] 3 (0,0)):=(Below.heap_alloc _ _ _ (by simp)).trans hnew
 have hnew3:w1.heap[V.heap.size]?=some (.cells #[.int .i64 i] 3 (0,0)):=(hg1.block _ (by simp;omega) (by simp)).trans hnew2
 have hnew4:w2.heap[V.heap.size]?=some (.cells #[.int .i64 i] 3 (0,0)):=(hg2.block _ (Array.getElem?_eq_some_iff.1 hnew3).1 (fun e=>by
  obtain ⟨_,cur,hc⟩:=hcb _ e.symm;have:=(Array.getElem?_eq_some_iff.1 hc).1
  omega)).trans hnew3
 refine ⟨hv2,fun e he=>?_,?_,h.bel.trans (hon.below (Nat.le_of_lt hN) (fun b hb=>by have:=(hcb b hb).1;omega))⟩
 ·rcases List.mem_append.1 he with he | he
  ·exact hsy e (List.mem_of_mem_take he)
  ·rcases List.mem_append.1 he with he | he
   ·simp only [List.mem_singleton] at he
    subst he;refine ⟨V.heap.size,_,rfl,hN,by simp [Pc.sy],hnew4,fun j hj=>?_⟩
    have hj0:j=0:=by simpa [Pc.sy] using hj
    subst hj0
    rfl
   ·exact hsy e (List.mem_of_mem_drop he)
 ·exact h.out.only hon (fun hb=>by have:=(hcb N hb).1;omega)
theorem z8w (p:Pc):∀ (l:List Pc) (k:Nat),k<=l.length->(∀ j,j<k->(l.getD j dpc).wt<=p.wt)->(k<l.length->¬(l.getD k dpc).wt<=p.wt)->z47 p l=l.take k++([p]++l.drop k)
 | [],k,hk,_,_=>by simp at hk;subst hk;rfl
 | q :: l,0,_,_,h2=>by
  have:=h2 (by simp)
  simp only [z47]
  rw [if_neg (by simpa using this)]
  rfl
 | q :: l,k+1,hk,h1,h2=>by
  have h0:=h1 0 (by omega)
  simp only [z47]
  rw [if_pos (by simpa using h0),z8w p l k (by simpa using hk) (fun j hj=>by simpa using h1 (j+1) (by omega)) (fun h=>by simpa using h2 (by simpa using h))]
  rfl
theorem z36 (es:List Ek) (i:Nat):(es.map Ek.p).getD i dpc=(es.getD i dek).p:=by
 simp only [List.getD_eq_getElem?_getD,List.getElem?_map]
 cases es[i]? <;> rfl
theorem zcm {zs:List Int} {es:List Ek} {i k z:Nat} {a:Option Addr} {c:Nat} (hm:es.map Ek.p=srt zs i) (hz:zs.getD i 0=(z:Int)) (hz0:0<z) (hk:k<=es.length) (h1:∀ j,j<k->(es.getD j dek).p.wt<=z) (h2:k<es.length->¬(es.getD k dek).p.wt<=z) :
  (es.take k++([(⟨.coin i z,a,c⟩:Ek)]++es.drop k)).map Ek.p=srt zs (i+1):=by
 simp only [srt]
 rw [if_pos (by omega),<-hm]
 have e:(zs.getD i 0).toNat=z:=by omega
 rw [e,z8w (.coin i z) (es.map Ek.p) k (by simpa using hk) (fun j hj=>by rw [z36];exact h1 j hj) (fun h=>by rw [z36];exact h2 (by simpa using h))]
 simp [List.map_take,List.map_drop]
theorem z1k {P:Program} {ops:Array Oper} {o:Oper} {a:Act} {w:World} {K:Act->World->Prop} {Q:Exit->Act->World->Prop} {E:Prop} (hg:o.guard=none) (h:Oper.wp P o a w K Q) :
  if Region.wanted o (yielded ops a.tmps)=true then Oper.wp P o a w K Q else E:=by
 rw [if_pos (by simp [Region.wanted,hg])]
 exact h
theorem zkh {i1:TypeInfo} (hi:Tryz.prog.info? 163=some i1) (hs:i1.size=2) (ca:Option Addr) (D cc k:Nat) (hk:k<=cc):∀ W,(Instr.slice 161 (.slice ca D cc) none (some (.int .i64 (k:Int))) none).run Tryz.prog W=.ok (.slice ca k cc) W:=by
 intro W
 rw [run_slice_h W 161 _ _ _ (by simp [Program.elem,Tryz.underlying161]) .i64 _ (by omega) (by omega)]
 cases ca <;> simp [Program.elem,Tryz.underlying161,Go.sizeOf,typeInfo,hi,hs,Result.andThen,sliced,Addr.add]
theorem zke {i1:TypeInfo} (hi:Tryz.prog.info? 163=some i1) (hs:i1.size=2) (ca:Option Addr) (D cc k:Nat) (hk:k<=D):∀ W,(Instr.slice 161 (.slice ca D cc) (some (.int .i64 (k:Int))) none none).run Tryz.prog W=.ok (.slice (if cc=k then ca else ca.map (·.add (k*2))) (D-k) (cc-k)) W:=by
 intro W
 rw [run_slice_l W 161 _ _ _ (by simp [Program.elem,Tryz.underlying161]) .i64 _ (by omega) (by omega)]
 simp [Program.elem,Tryz.underlying161,Go.sizeOf,typeInfo,hi,hs,Result.andThen,sliced]
theorem zjc {zs:List Int} {L s k:Nat} (h:(z4 zs).length=1) (hp:(z4 zs).getD 0 dpc=.coin s k) (hs:s<zs.length):z0w zs L=(List.replicate zs.length (0:Int)).set s 1:=by
 unfold z0w;rw [if_pos h,hp]
 show zz _ _=_
 unfold zz;have e:(List.replicate zs.length (0:Int)).getD (s:Int).toNat 0=0:=by
  simp only [Int.toNat_natCast,List.getD_eq_getElem?_getD,List.getElem?_replicate]
  split <;> rfl
 rw [e]
 simp
structure RoI (w W:World) (N n:Nat) (zs:List Int) (ca:Option Addr) (es:List Ek) (pa:Option Addr) (ks:List Ek):Prop where
 coins:Eks W ca es
 sye:EkSy W N es
 packs:Eks W pa ks
 syk:EkSy W N ks
 out:OwI W N N n (List.replicate zs.length 0)
 bel:Below N w W
theorem RoI.below {w W W':World} {N n:Nat} {zs:List Int} {ca pa:Option Addr} {es ks:List Ek} (h:RoI w W N n zs ca es pa ks) (hb:Below W.heap.size W W'):RoI w W' N n zs ca es pa ks:=⟨h.coins.below hb,h.sye.below hb,h.packs.below hb,h.syk.below hb,h.out.below hb nl,h.bel.trans (hb.mono (Nat.le_of_lt h.out.lt.2))⟩
theorem zkl (p:Pc):∀ zs:List Int,z1f p zs=p.sy.foldl zz zs:=by
 induction p with
 | coin s c=>intro zs;rfl
 | pack a b n iha ihb=>intro zs;rw [z1f,iha,ihb,Pc.sy,List.foldl_append]
theorem zck {n:Nat} (p:Pc):p.ok n->∀ z ∈ p.sy,0<=z/\z<n:=by
 induction p with
 | coin s c=>intro h z hz;simp [Pc.sy] at hz;have:=h.1;omega
 | pack a b m iha ihb=>
  intro h z hz
  rcases List.mem_append.1 hz with hz | hz
  ·exact iha h.1 z hz
  ·exact ihb h.2 z hz
theorem zk2 (l:List Int):∀ zs:List Int,(l.foldl zz zs).length=zs.length:=by
 induction l with
 | nil=>intro zs;rfl
 | cons z l ih=>intro zs;rw [List.foldl_cons,ih,z4y]
theorem zjp (l:List Int):∀ (zs:List Int) (M:Int),0<=M->(∀ z ∈ zs,0<=z/\z<=M)->∀ z ∈ l.foldl zz zs,0<=z/\z<=M+l.length:=by
 induction l with
 | nil=>intro zs M h0 h z hz;have:=h z hz;simp;omega
 | cons y l ih=>
  intro zs M h0 h z hz
  have:=ih (zz zs y) (M+1) (by omega) (z88 h h0) z hz
  simp only [List.length_cons]
  omega
theorem zh1 (l:List Int) (zs:List Int) (k:Nat) (hk:k<l.length):(l.take (k+1)).foldl zz zs=zz ((l.take k).foldl zz zs) (l.getD k 0):=by
 rw [List.take_succ_eq_append_getElem hk,List.foldl_append]
 simp [List.getD_eq_getElem?_getD,hk]
theorem znh {cs:List Int} {s:Nat} {x:Int} (h:cs.getD s 0=x):zz cs (s:Int)=cs.set s (x+1):=by
 unfold zz;rw [Int.toNat_natCast,h]
theorem zic (p:Pc):1<=p.sz:=by
 induction p with
 | coin s c=>exact Nat.le_refl _
 | pack a b n iha ihb=>simp only [Pc.sz];omega
theorem z6m {o:Oper} {act:Act} {w:World} {K:Act->World->Prop} {Q:Exit->Act->World->Prop} (s x:Operand) (ho:o.op=.call { callee:=.builtin .append,args:=#[s,x],argTypes:=#[57,57] })
  {B:Nat} {v:Value} {zs ys:List Int} {a:Option Addr} {c n:Nat} (hs:act.eval s=v) (hx:act.eval x=.slice a n c) (hn:n=ys.length) (h:OVI w B v zs) (hq:Ins w a ys) (h0:1<=ys.length) (hl:zs.length+ys.length<=100000000000) (hB:B<=w.heap.size)
  (hk:∀ v' w',OVI w' B v' (zs++ys)->w.grownBy w' v.ownBlock->K (act.put o.dst v') w'):o.wp Tryz.prog act w K Q:=by
 obtain ⟨i0,hi,hz0,hz1,hz2⟩:=info_parts Tryz.infoI64;subst hn;obtain ⟨b,off,rfl,hbl,hc⟩:=hq.2 (by omega)
 obtain ⟨v',w',hr,h2,h3,_,_⟩:=run_append_own_at (P:=Tryz.prog) w B 57 o.type 3 i0 _ 1 8 Tryz.underlying57 hi hz0 hz1 hz2 rfl (by decide) v zs.length (zs.map (Value.int .i64)) h.1 ⟨b,off,none⟩ ys.length c (ys.map (Value.int .i64)) (by simp) (by
  intro j u hu
  simp only [List.getElem?_map,Option.map_eq_some_iff] at hu
  obtain ⟨y,hy,rfl⟩:=hu;have hj:j<ys.length:=(List.getElem?_eq_some_iff.1 hy).1;have e:(⟨b,off,none⟩:Addr).add j=⟨b,off+j,none⟩:=by
   cases j with
   | zero=>simp [Addr.add]
   | succ j=>simp [Addr.add]
  simp [e,hc j hj,List.getD_eq_getElem?_getD,hy]) (by
  intro u hu
  obtain ⟨y,_,rfl⟩:=List.mem_map.1 hu
  rfl) (by unfold maxLen;omega) (by omega) hB
 unfold Oper.wp execOp
 simp only [ho,resolve,invoke,builtin,Sem.run_bind,Sem.run_pure,Result.andThen_ok,List.map_toArray,List.map_cons,List.map_nil,hs,hx,hr]
 refine hk v' w' ⟨by rw [List.length_append,List.map_append];exact h2,fun y hy=>?_⟩ h3
 rcases List.mem_append.1 hy with hy | hy
 ·exact h.2 y hy
 ·exact hq.1 y hy
theorem zlk (w:World):OVI (w.alloc (Obj.cells #[] 3)) w.heap.size (.slice (some ⟨w.heap.size,0,none⟩) 0 0) []:=
 ⟨⟨rfl,.inr ⟨w.heap.size,0,#[],rfl,Nat.le_refl _,heap_alloc_new w _,Nat.le_refl _,by decide,rfl,rfl⟩⟩,by simp⟩
structure PaI (w5 W:World) (N B:Nat) (v:Value) (es:List Ek):Prop where
 row:OVk W B v es
 sy:EkSy W N es
 bel:Below B w5 W
theorem PaI.more {w5 V w6 w7 w9:World} {N B:Nat} {v v1 v9:Value} {es:List Ek} {E:Ek} {sy1 sy2:List Int} {o:Obj} (h:PaI w5 V N B v es) (hNB:N<B) (hB:B<=w5.heap.size)
  (hg6:(V.alloc (Obj.cells #[] 3)).grownBy w6 (some V.heap.size)) (ho6:OVI w6 V.heap.size v1 sy1) (hg7:w6.grownBy w7 v1.ownBlock) (ho7:OVI w7 V.heap.size (.slice E.a E.p.sy.length E.c) E.p.sy) (hE:1<=E.p.sy.length)
  (h9:OVk w9 B v9 (es++[E])) (hg9:(w7.alloc o).grownBy w9 v.ownBlock):PaI w5 w9 N B v9 (es++[E]):=by
 have hVB:B<=V.heap.size:=Nat.le_trans hB h.bel.size;have hb1:Bw V (V.alloc (Obj.cells #[] 3)):=bAw;have hb6:Bw V w6:=hb1.grown hg6 hb1.size (fun j hj=>by cases hj;exact Nat.le_refl _)
 have hb7:Bw V w7:=hb6.grown hg7 hb6.size (fun j hj=>ho6.blk hj)
 have hb8:Bw V (w7.alloc o):=hb7.alloc hb7.size _;have hon:Only (fun b=>v.ownBlock=some b) V w9:=(Only.ofBelow (S:=fun b=>v.ownBlock=some b) hb8 nl).grown hg9 (fun b hb=>.inl hb)
 refine ⟨h9,fun e he=>?_,h.bel.trans (hon.below hVB (fun b hb=>(World.ownsRow.lt h.row b hb).1))⟩
 rcases List.mem_append.1 he with he | he
 ·exact h.sy.only hon (fun b hb=>by
   obtain ⟨cur,hc⟩:=h.row.tag hb;exact .inr ⟨cur,_,hc,by decide⟩) e he
 ·simp only [List.mem_singleton] at he
  subst he;rcases ho7.1.2 with ⟨e1,e2⟩ | ⟨g,cap,cur,e1,hg,hh,h4,h5,h6,h7⟩
  ·omega
  ·simp only [Value.slice.injEq] at e1
   obtain ⟨ea,-,ec⟩:=e1;have hh8:(w7.alloc o).heap[g]?=some (.cells cur 3 (0,0)):=(Below.heap_alloc _ _ _ (Array.getElem?_eq_some_iff.1 hh).1).trans hh;have hh9:w9.heap[g]?=some (.cells cur 3 (0,0)):=(hg9.block g (Array.getElem?_eq_some_iff.1 hh8).1 (fun e=>by
    have:=(World.ownsRow.lt h.row g e.symm).2
    omega)).trans hh8
   refine ⟨g,cur,ea,by omega,by rw [ec];exact h4,hh9,fun i hi=>?_⟩
   have h8:=congrArg (·[i]?) h7
   simp only [List.getElem?_take,List.getElem?_map,Nat.mul_one] at h8
   rw [if_pos hi] at h8;rw [<-Array.getElem?_toList,h8]
   simp [List.getD_eq_getElem?_getD,List.getElem?_eq_getElem hi]
end Go.Proofs.YtjmcjbmjgpponaaGreatDoor
