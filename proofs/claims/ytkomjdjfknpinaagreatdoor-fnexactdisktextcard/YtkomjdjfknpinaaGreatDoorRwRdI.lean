import Derived.Test.YtkomjdjfknpinaaGreatDoorMpG
set_option maxRecDepth 20000
set_option maxHeartbeats 16000000
namespace Go.Proofs.YtkomjdjfknpinaaGreatDoor
open Go.RowKit
set_option linter.unusedVariables false
theorem zlb (p:Bool) (e:El):∀ u ∈ e.cells p,u.oneCell'=true:=by
 intro u hu
 cases p <;> simp [El.cells] at hu
 ·subst hu;rfl
 ·rcases hu with rfl | rfl <;> rfl
theorem zov (p:Bool):∃ i z b,Tryz.prog.info? (eT p)=some i/\i.zero=some z/\i.size=eW p/\i.bytes=b/\z.cells.size=eW p/\b<=32:=by
 cases p
 ·obtain ⟨i0,hi,hz0,hz1,hz2⟩:=info_parts Tryz.infoBs
  exact ⟨i0,_,24,hi,hz0,hz1,hz2,rfl,by omega⟩
 ·obtain ⟨i0,hi,hz0,hz1,hz2⟩:=info_parts Tryz.infoPend
  exact ⟨i0,_,32,hi,hz0,hz1,hz2,rfl,by omega⟩
def eS (p:Bool):TypeId:=cond p 38 22
theorem zp7 (p:Bool):Tryz.prog.underlying (eS p)=some (.slice (eT p)):=by
 cases p
 ·exact Tryz.underlying22
 ·exact Tryz.underlying38
theorem zhg {p:Bool} {w0 wr w1:World} {B:Nat} {v:Value} {es:List El} (hbel:Below B w0 wr) (hB:B<=wr.heap.size) (h:OVr p wr B v es) (hg:wr.grownBy w1 v.ownBlock):Below B w0 w1:=
 hbel.grown hg hB (fun k hk=>(h.blk hk).1)
theorem OVr.empty (p:Bool) (w:World) (B:Nat) (hB:B<=w.heap.size):OVr p (w.alloc (Obj.cells #[] (eT p))) B (.slice (some ⟨w.heap.size,0,none⟩) 0 0) []:=
 ⟨⟨by simp,.inr ⟨w.heap.size,0,#[],rfl,hB,z40 w _,Nat.le_refl _,by simp,by simp,by simp⟩⟩⟩
theorem zb0 (p:Bool) {o:Oper} {a:Act} {w:World} {K:Act->World->Prop} {Q:Exit->Act->World->Prop} (s x:Operand) (ho:o.op=.call { callee:=.builtin .append,args:=#[s,x],argTypes:=#[eS p,eS p] })
  (B:Nat) (v:Value) (es fs:List El) (hs:a.eval s=v) (hown:OVr p w B v es) (xa:Addr) (c:Nat) (hx:a.eval x=.slice (some xa) fs.length c) (hX:Els p w (some xa) fs) (hb1:es.length+fs.length<=1000000) (hbase:B<=w.heap.size)
  (h:∀ v' w',OVr p w' B v' (es++fs)->w.grownBy w' v.ownBlock->K (a.put o.dst v') w'):o.wp Tryz.prog a w K Q:=by
 obtain ⟨i0,z0,b0,hi,hz0,hz1,hz2,hz3,hb0⟩:=zov p;have hp:0<eW p:=by cases p <;> simp [eW]
 have hnews:∀ j u,(fs.flatMap (El.cells p))[j]?=some u->w.cell? (xa.add j)=some u:=by
  intro j u hu
  have hj:j<fs.length*eW p:=by
   rcases Nat.lt_or_ge j (fs.length*eW p) with h | h
   ·exact h
   ·rw [List.getElem?_eq_none (by rw [z3a];exact h)] at hu;cases hu
  have hi1:j / eW p<fs.length:=by rw [Nat.div_lt_iff_lt_mul hp];exact hj
  have hi2:j % eW p<eW p:=Nat.mod_lt _ hp;have hjj:j / eW p*eW p+j % eW p=j:=by rw [Nat.mul_comm];exact Nat.div_add_mod j (eW p)
  obtain ⟨b,off,e,hb,hc⟩:=hX.2 (Nat.lt_of_le_of_lt (Nat.zero_le _) hi1);obtain rfl:xa=⟨b,off,none⟩:=by simpa using e
  have hg:=z1e p fs (j / eW p) hi1 (j % eW p) hi2;rw [hjj,hu] at hg;have hl:=hc (j / eW p) hi1;rw [z4j];generalize hq:j / eW p=q at *;generalize hr:j % eW p=r at *;subst hjj
  cases p
  ·obtain rfl:r=0:=by simp [eW] at hi2;omega
   have h1:=hl.c1
   simp [eW,eO,El.cells] at h1 hg ⊢
   rw [h1,hg]
  ·have h0:=hl.c0 rfl
   have h1:=hl.c1;have h2:r=0\/r=1:=by simp [eW] at hi2;omega
   rcases h2 with rfl | rfl
   ·simp [eW,El.cells] at h0 hg ⊢
    rw [h0,hg]
   ·simp [eW,eO,El.cells] at h1 hg ⊢
    rw [<-Nat.add_assoc,h1,hg]
 have hone:∀ u ∈ fs.flatMap (El.cells p),u.oneCell'=true:=by
  intro u hu
  obtain ⟨e,_,he⟩:=List.mem_flatMap.1 hu;exact zlb p e u he
 obtain ⟨v',w',hr,h2,h3,_,_⟩:=run_append_own_at (P:=Tryz.prog) w B (eS p) o.type (eT p) i0 z0 (eW p) b0 (zp7 p) hi hz0 hz1 hz2 hz3 hp v es.length _ hown.own xa fs.length c (fs.flatMap (El.cells p)) (z3a p fs) hnews hone (by unfold maxLen;omega) (Nat.le_trans (Nat.mul_le_mul hb1 hb0) (by omega)) hbase
 unfold Oper.wp execOp
 simp only [ho,resolve,invoke,builtin,Sem.run_bind,Sem.run_pure,Result.andThen_ok,List.map_toArray,List.map_cons,List.map_nil,hs,hx,hr]
 refine h v' w' ⟨?_⟩ h3;rw [List.length_append,List.flatMap_append];exact h2
theorem z6f (p:Bool) {ops:Array Oper} {rest:List Oper} {o:Oper} {a:Act} {Q:Exit->Act->World->Prop} {w:World} (hgd:o.guard=none) (s x:Operand) (ho:o.op=.call { callee:=.builtin .append,args:=#[s,x],argTypes:=#[eS p,eS p] })
  (B:Nat) (v:Value) (es fs:List El) (hs:a.eval s=v) (hown:OVr p w B v es) (xa:Addr) (c:Nat) (hx:a.eval x=.slice (some xa) fs.length c) (hX:Els p w (some xa) fs) (hb1:es.length+fs.length<=1000000) (hbase:B<=w.heap.size)
  (h:∀ v' w',OVr p w' B v' (es++fs)->w.grownBy w' v.ownBlock->wpList Tryz.prog ops Q rest (a.put o.dst v') w'):wpList Tryz.prog ops Q (o :: rest) a w:=
 wpList_plain hgd fun _ hK=>zb0 p s x ho B v es fs hs hown xa c hx hX hb1 hbase fun v' w' h1 h2=>hK _ _ (h v' w' h1 h2)
theorem zki {p:Bool} {w:World} {es:List El} (h:Els p w none es):es=[]:=by
 rcases Nat.eq_zero_or_pos es.length with h0 | h0
 ·exact List.eq_nil_of_length_eq_zero h0
 ·obtain ⟨b,off,e,_⟩:=h.2 h0
  cases e
theorem zbl (a:Option Addr) (cap:Nat) (es:List El) (w:World) (hb:Els true w a es) (hn:es.length<=1000000) :
  Calls Tryz.prog 166 #[.slice a es.length cap] w fun e w'=>(∃ v,e=.returned v/\OVr true w' w.heap.size v es)/\Below w.heap.size w w':=by
 cases a with
 | none=>
  have hz:=zki hb;subst hz;have heq:(binOp .eql 38 (.slice none 0 cap) (.slice none 0 0)).run Tryz.prog w=.ok (.bool true) w:=Lib.run_eql_slice_nil w _ _ none 0 cap 0 0 Tryz.underlying38
  go_enter Tryz.func166,Tryz.ntmps166
  go_wp2
  go_ret;exact ⟨⟨_,rfl,OVr.nil _ _ _⟩,Below.refl _ _⟩
 | some ad=>
  have HO:Hid (OVr true (w.alloc (Obj.cells #[] 123)) w.heap.size (.slice (some ⟨w.heap.size,0,none⟩) 0 0) []):=OVr.empty true w _ nl;have HB:Hid (Bw w (w.alloc (Obj.cells #[] 123))):=ba;have HY:Hid (Els true (w.alloc (Obj.cells #[] 123)) (some ad) es):=hb.below HB.out nl;clear hb;have heq:(binOp .eql 38 (.slice (some ad) es.length cap) (.slice none 0 0)).run Tryz.prog w=.ok (.bool false) w:=Lib.run_eql_slice_nil w _ _ (some ad) es.length cap 0 0 Tryz.underlying38
  go_enter Tryz.func166,Tryz.ntmps166
  go_wp2_with (at_builtin;(refine z6f true rfl (.tmp 5) (.tmp 6) rfl w.heap.size (.slice (some ⟨w.heap.size,0,none⟩) 0 0) [] es rfl HO.out ad cap rfl HY.out (by simp;omega) (by simp) ?_;intro v1 w1 hov1 hgr1;have HB1:Hid (Below w.heap.size w w1):=zhg HB.out (by simp) HO.out hgr1;have HV1:Hid (OVr true w1 w.heap.size v1 es):=(by rw [List.nil_append] at hov1;exact hov1);clear hov1 hgr1))
  go_ret;exact ⟨⟨_,rfl,HV1.out⟩,HB1.out⟩
def zq (es:List El) (x:Int):Nat->Option El
 | 0=>none
 | k+1=>if (es.getD k de).n=x then some (es.getD k de) else zq es x k
theorem zl7 {es fs:List El} (h:fs.map El.ct=es.map El.ct) (x:Int) (k:Nat):(zq fs x k).map El.ct=(zq es x k).map El.ct:=by
 induction k with
 | zero=>rfl
 | succ k ih=>
  have h1:=z0k h k;have h2:(fs.getD k de).n=(es.getD k de).n:=congrArg Prod.fst h1
  simp only [zq,h2]
  split
  ·simp only [Option.map_some,h1]
  ·exact ih
theorem z5q {es:List El} {x:Int} {k:Nat} {e:El} (h:zq es x k=some e) (hk:k<=es.length):e ∈ es:=by
 induction k with
 | zero=>cases h
 | succ k ih=>
  simp only [zq] at h
  split at h
  ·cases h;exact zf (by omega)
  ·exact ih h (by omega)
def rdE (ss ps:List El) (x:Int):El:=(zq ps x ps.length).getD (ss.getD x.toNat de)
theorem zni {ss ps ts qs:List El} (h1:ts.map El.ct=ss.map El.ct) (h2:qs.map El.ct=ps.map El.ct) (x:Int):(rdE ts qs x).ls=(rdE ss ps x).ls:=by
 have h3:=zl7 h2 x ps.length;have h4:=z0k h1 x.toNat;unfold rdE;rw [z00 h2]
 cases ha:zq qs x ps.length with
 | none=>
  rw [ha] at h3
  cases hb:zq ps x ps.length with
  | none=>exact congrArg Prod.snd h4
  | some e=>rw [hb] at h3;simp at h3
 | some e=>
  rw [ha] at h3
  cases hb:zq ps x ps.length with
  | none=>rw [hb] at h3;simp at h3
  | some e2=>
   rw [hb] at h3
   simp only [Option.map_some,Option.some.injEq] at h3
   exact congrArg Prod.snd h3
def rdB (ss ps:List El) (x:Int):Bool:=rok ss ps && decide (0<=x/\x<(ss.length:Int))
def rdL (ss ps:List El) (x:Int):List Int:=if rdB ss ps x=true then (rdE ss ps x).ls else []
theorem zir {ss ps:List El} {x:Nat} (h:rok ss ps=true) (hx:x<ss.length):rdB ss ps x=true/\rdL ss ps x=(rdE ss ps x).ls:=by
 have h3:rdB ss ps x=true:=by unfold rdB;rw [h,decide_eq_true (by omega)];rfl
 exact ⟨h3,by unfold rdL;rw [if_pos h3]⟩
theorem zc0 {ss ps:List El} {x:Int} (h:¬(rok ss ps=true/\0<=x/\x<(ss.length:Int))):rdB ss ps x=false/\rdL ss ps x=[]:=by
 have h3:rdB ss ps x=false:=by
  unfold rdB
  cases hr:rok ss ps with
  | false=>rfl
  | true=>rw [decide_eq_false (fun h2=>h ⟨hr,h2⟩)];rfl
 exact ⟨h3,by unfold rdL;rw [h3];rfl⟩
theorem zfy {w:World} {sa pa:Option Addr} {ss ps:List El} {x:Nat} (h:RawI w sa pa ss ps) (hx:x<ss.length):Byt w (rdE ss ps x).a (rdE ss ps x).ls:=by
 unfold rdE
 cases ha:zq ps x ps.length with
 | none=>simp only [Option.getD_none,Int.toNat_natCast];exact (h.1.at x hx).2
 | some e=>exact (h.2.1 e (z5q ha nl)).2
theorem z9s {ss ps:List El} {x:Nat} (h:Rok ss ps) (hx:x<ss.length):(rdE ss ps x).ls.length=256:=by
 unfold rdE
 cases ha:zq ps x ps.length with
 | none=>simp only [Option.getD_none,Int.toNat_natCast];exact h.2.2.2.1 x hx
 | some e=>
  obtain ⟨i,hi,he⟩:=z2x (z5q ha nl);have:=(h.2.2.2.2 i hi).2.2;rw [he] at this;exact this
structure Que (W:World) (B Q:Nat) (v:Value) (es:List El):Prop where
 box:Box2 W Q v (.int .i64 60)
 hQ:B<=Q
 row:OVr true W B v es
 ne:¬v.ownBlock=some Q
theorem zec (a:Option Addr) (cap:Nat) (es:List El) (w:World) (hb:Els true w a es) (hn:es.length<=1000000) :
  Calls Tryz.prog 147 #[.slice a es.length cap,.int .i64 60] w fun e w'=>(∃ Q v,e=.returned (.pointer (some ⟨Q,0,none⟩))/\Que w' w.heap.size Q v es)/\Below w.heap.size w w':=by
 go_enter Tryz.func147,Tryz.ntmps147
 go_wp2_with fail
 refine (zbl a cap es w hb hn).mono ?_;rintro e w1 ⟨⟨v,rfl,hov⟩,hb1⟩;obtain ⟨va,vc,rfl⟩:=hov.form;have HB2:Hid (Bw w (w1.alloc (Obj.cells #[.slice va es.length vc,.int .i64 60] 212))):=hb1.alloc hb1.size _;have HQ:Hid (Que (w1.alloc (Obj.cells #[.slice va es.length vc,.int .i64 60] 212)) w.heap.size w1.heap.size (.slice va es.length vc) es):=⟨Box2.new _ _ _ _,hb1.size,hov.below ((Below.refl _ _).alloc nl _),fun he=>by have:=(hov.blk he).2;omega⟩
 clear hov hb1;go_wp2;go_ret;exact ⟨⟨_,_,rfl,HQ.out⟩,HB2.out⟩
theorem zj8 (sa pa:Option Addr) (sc pc n:Nat) (es:List El) (w:World) (hb:Els true w pa es) (hn:es.length<=1000000) :
  Calls Tryz.prog 126 #[.agg #[.slice sa n sc,.slice pa es.length pc]] w fun e w'=>(∃ Q v,e=.returned (.pointer (some ⟨Q,0,none⟩))/\Que w' w.heap.size Q v es)/\Below w.heap.size w w':=by
 have HW:Hid (Bw w (w.alloc (Obj.cells #[.slice sa n sc,.slice pa es.length pc] 40))):=ba
 go_enter Tryz.func126,Tryz.ntmps126
 go_wp2_with fail
 refine (zec pa pc es _ (hb.below HW.out nl) hn).mono ?_;rintro e w1 ⟨⟨Q,v,rfl,hq⟩,hb1⟩;have HB1:Hid (Bw w w1):=HW.out.trans (hb1.mono HW.out.size);have HQ:Hid (Que w1 w.heap.size Q v es):=⟨hq.box,by have:=hq.hQ;simp at this;omega,hq.row.weak (by simp),hq.ne⟩
 clear hq hb1;go_wp2;go_ret;exact ⟨⟨_,_,rfl,HQ.out⟩,HB1.out⟩
theorem zl0 (n:Int) (a:Option Addr) (L c P:Nat) (x:Int) (w:World) (hP:w.cell? ⟨P,0,none⟩=some (.int .i64 x)) :
  Calls Tryz.prog 128 #[.agg #[.int .i64 n,.slice a L c],.pointer (some ⟨P,0,none⟩)] w fun e w'=>e=.returned (.bool (decide (n=x)))/\Below w.heap.size w w':=by
 have HW:Hid (Bw w (w.alloc (Obj.cells #[.int .i64 n,.slice a L c] 123))):=ba;have hlt:=World.block_lt_of_cell? _ _ hP;have hp:=ze (Obj.cells #[.int .i64 n,.slice a L c] 123) hlt hP
 by_cases h:n=x
 ·rw [decide_eq_true h]
  subst h;have hxx:(n == n)=true:=by simp
  go_enter Tryz.func128,Tryz.ntmps128
  go_wp2
  go_ret;exact ⟨rfl,HW.out⟩
 ·rw [decide_eq_false h]
  have hxx:(n == x)=false:=by rw [beq_eq_false_iff_ne];exact h
  clear h
  go_enter Tryz.func128,Tryz.ntmps128
  go_wp2
  go_ret;exact ⟨rfl,HW.out⟩
theorem zkb (Q P:Nat) (va:Option Addr) (vc:Nat) (es:List El) (x:Int) (w:World) (hq:Box2 w Q (.slice va es.length vc) (.int .i64 60)) (hb:Els true w va es) (hP:w.cell? ⟨P,0,none⟩=some (.int .i64 x)) (hn:es.length<=1000000) :
  Calls Tryz.prog 127 #[.pointer (some ⟨Q,0,none⟩),.func (.func 128) #[] #[.pointer (some ⟨P,0,none⟩)]] w fun e w'=>
   (∃ n a c ls b,e=.returned (.tuple #[.agg #[.int .i64 n,.slice a (List.length ls) c],.bool b])/\((b=true/\zq es x es.length=some ⟨n,a,c,ls⟩)\/(b=false/\zq es x es.length=none)))/\Below w.heap.size w w':=by
 have HB:Hid (Els true w va es):=hb;have HSU:Hid (∀ k,zq es x (k+1)=if (es.getD k de).n=x then some (es.getD k de) else zq es x k):=fun k=>rfl
 have HS0:Hid (zq es x 0=none/\True):=⟨rfl,trivial⟩;generalize hlen:es.length=m at *;have HL:Hid (es.length=m/\True):=⟨hlen,trivial⟩;clear hlen hb;obtain ⟨q0,q1,-,-,ql⟩:=hq;have hPl:=World.block_lt_of_cell? _ _ hP
 simp only at hPl
 go_enter Tryz.func127,Tryz.ntmps127
 go_wp2
 go_loopw [6] (fun i wr=>∃ k:Nat,k<=m/\i=.int .i64 ((k:Int)-1)/\zq es x m=zq es x k/\Below (w.heap.size+1) (w.alloc (Obj.cells #[.int .i64 0,.slice none 0 0] 123)) wr) (fun i _=>(intOf i+1).toNat)
 case atStart=>exact ⟨m,Nat.le_refl _,rfl,rfl,Below.refl _ _⟩
 case round=>
  obtain ⟨k,hk,rfl,heq,hbel⟩:=hrel;have HE:Hid (zq es x m=zq es x k/\True):=⟨heq,trivial⟩;clear heq;have hb0:Bw w wr:=((Below.refl _ _).alloc nl _).trans (hbel.mono (by omega))
  have r0:=keep hb0 ql q0;have r1:=keep hb0 ql q1;have rP:=keep hb0 hPl hP;obtain ⟨t0,t1,g0,g1,tl⟩:=(Box2.new w (.int .i64 0) (.slice none 0 0) 123).keep hbel (by omega)
  have HBE:Hid (Below (w.heap.size+1) (w.alloc (Obj.cells #[.int .i64 0,.slice none 0 0] 123)) wr/\Bw w wr/\Box2 wr w.heap.size (.int .i64 0) (.slice none 0 0)):=⟨hbel,hb0,⟨t0,t1,g0,g1,tl⟩⟩;clear hbel
  by_cases hk0:0<k
  ·obtain ⟨j,rfl⟩:∃ j,k=j+1:=⟨k-1,by omega⟩
   obtain ⟨b,off,rfl,hb1,c0,c1,-,-⟩:=(HB.out.below hb0 nl).pen j (by rw [HL.out.1];omega)
   have hj1:((j+1:Nat):Int)-1=(j:Int):=by omega
   rw [hj1];clear hj1;have HS:=HSU.out j;generalize es.getD j de=s at *;obtain ⟨sn,a2,c2,sl⟩:=s
   simp only at c0 c1 HS
   have HFT:=zl0 sn a2 sl.length c2 P x wr rP;clear hb0;go_wp2_with fail
   refine HFT.mono ?_;clear HFT;rintro e w3 ⟨rfl,hb3⟩;have hqw:Q<wr.heap.size:=World.block_lt_of_cell? _ _ r0;have u0:=keep hb3 hqw r0;have d0:=keep hb3 hb1 c0;have d1:=keep hb3 hb1 c1;have hb3':Below (w.heap.size+1) wr w3:=hb3.mono (by omega)
   have HB3:Hid (Below (w.heap.size+1) (w.alloc (Obj.cells #[.int .i64 0,.slice none 0 0] 123)) w3/\Bw w w3):=⟨HBE.out.1.trans hb3',HBE.out.2.1.trans (hb3.mono HBE.out.2.1.size)⟩;obtain ⟨v0,v1,k0,k1,vl⟩:=HBE.out.2.2.keep hb3 HBE.out.2.2.lt;clear hb3 hb3' HBE r0 r1 rP t0 t1 g0 g1 c0 c1
   by_cases hs:sn=x
   ·rw [decide_eq_true hs]
    have HF:Hid (zq es x m=some ⟨sn,a2,c2,sl⟩/\True):=by
     rw [if_pos hs] at HS;exact ⟨HE.out.1.trans HS,trivial⟩
    clear HS hs;have HBF:Hid (Bw w ((w3.setCell ⟨w.heap.size,0,none⟩ (.int .i64 sn)).setCell ⟨w.heap.size,1,none⟩ (.slice a2 sl.length c2))):=(HB3.out.2.setCell (p:=⟨w.heap.size,0,none⟩) nl _).setCell (p:=⟨w.heap.size,1,none⟩) nl _;go_wp2;exact bodyPost_ret (v:=.tuple #[.agg #[.int .i64 sn,.slice a2 sl.length c2],.bool true]) (by simp [results,Tryz.results127,go_sem,v0,v1]) rfl ⟨⟨sn,a2,c2,sl,true,rfl,.inl ⟨rfl,HF.out.1⟩⟩,HBF.out⟩
   ·rw [decide_eq_false hs]
    have HE2:Hid (zq es x m=zq es x j/\True):=by
     rw [if_neg hs] at HS;exact ⟨HE.out.1.trans HS,trivial⟩
    clear HS hs;go_wp2;go_roundw
    case rel=>exact ⟨j,by omega,rfl,HE2.out.1,HB3.out.1⟩
    case measure=>simp [intOf]
  ·obtain rfl:k=0:=by omega
   have HF:Hid (zq es x m=none/\True):=⟨HE.out.1.trans HS0.out.1,trivial⟩;have HBF:Hid (Bw w (((wr.setCell ⟨w.heap.size,0,none⟩ (.int .i64 0)).setCell ⟨w.heap.size,1,none⟩ (.slice none 0 0)).alloc (Obj.cells #[.int .i64 0,.slice none 0 0] 123))):=((HBE.out.2.1.setCell (p:=⟨w.heap.size,0,none⟩) nl _).setCell (p:=⟨w.heap.size,1,none⟩) nl _).alloc (by simp;omega) _
   have HZ:=((HBE.out.2.2.set0 (.int .i64 0)).set1 (.slice none 0 0)).alloc (Obj.cells #[.int .i64 0,.slice none 0 0] 123);have HZ':Hid _:=HZ;clear HZ;clear hb0;go_wp2;exact bodyPost_ret (v:=.tuple #[.agg #[.int .i64 0,.slice none 0 0],.bool false]) (by simp [results,Tryz.results127,go_sem,HZ'.out.c0,HZ'.out.c1]) rfl ⟨⟨0,none,0,[],false,rfl,.inr ⟨rfl,HF.out.1⟩⟩,HBF.out⟩
theorem zhm (sa pa:Option Addr) (sc pc:Nat) (ss ps:List El) (x:Nat) (w:World) (hb:RawI w sa pa ss ps) (hx:x<ss.length) (hn:ss.length<=1000000) (hm:ps.length<=1000000) :
  Calls Tryz.prog 78 #[.agg #[.slice sa ss.length sc,.slice pa ps.length pc],.int .i64 x] w fun e w'=>e=.returned (.slice (rdE ss ps x).a (rdE ss ps x).ls.length (rdE ss ps x).c)/\Below w.heap.size w w':=by
 have HB:Hid (RawI w sa pa ss ps):=hb;have HSU:Hid (∀ k,zq ps x (k+1)=if (ps.getD k de).n=(x:Int) then some (ps.getD k de) else zq ps x k):=fun k=>rfl
 have HRD:Hid (rdE ss ps x=(zq ps x ps.length).getD (ss.getD x de)/\zq ps x 0=none):=⟨by unfold rdE;rw [Int.toNat_natCast],rfl⟩
 clear hb;generalize rdE ss ps x=R at *;generalize hlen:ss.length=n at *;generalize hlen2:ps.length=m at *;have HL:Hid (ss.length=n/\ps.length=m):=⟨hlen,hlen2⟩;clear hlen hlen2;have HW:Hid (Bw w (w.alloc (Obj.cells #[.slice sa n sc,.slice pa m pc] 40))):=ba
 go_enter Tryz.func78,Tryz.ntmps78
 go_wp2
 go_loop [5] (fun i=>∃ k:Nat,k<=m/\i=.int .i64 ((k:Int)-1)/\zq ps x m=zq ps x k) (fun i=>(intOf i+1).toNat)
 case atStart=>exact ⟨m,Nat.le_refl _,rfl,rfl⟩
 case round=>
  obtain ⟨k,hk,rfl,heq⟩:=hrel;have HE:Hid (zq ps x m=zq ps x k/\True):=⟨heq,trivial⟩;clear heq
  by_cases hk0:0<k
  ·obtain ⟨j,rfl⟩:∃ j,k=j+1:=⟨k-1,by omega⟩
   obtain ⟨b,off,rfl,hb1,c0,c1,-,-⟩:=(HB.out.2.below HW.out nl).pen j (by rw [HL.out.2];omega)
   have HS:=HSU.out j;have hj1:((j+1:Nat):Int)-1=(j:Int):=by omega
   rw [hj1];clear hj1;generalize ps.getD j de=s at *;obtain ⟨sn,a2,c2,sl⟩:=s
   simp only at c0 c1 HS
   by_cases hs:sn=(x:Int)
   ·have HF:Hid (R=⟨sn,a2,c2,sl⟩/\True):=by
     rw [if_pos hs] at HS;refine ⟨?_,trivial⟩;rw [HRD.out.1,HE.out.1,HS]
     rfl
    subst hs;have hxx:((x:Int) == (x:Int))=true:=by simp
    clear HS;go_wp2;go_ret;exact ⟨by rw [HF.out.1];rfl,HW.out⟩
   ·have HE2:Hid (zq ps x m=zq ps x j/\True):=by
     rw [if_neg hs] at HS;exact ⟨HE.out.1.trans HS,trivial⟩
    have hs':(sn == (x:Int))=false:=by rw [beq_eq_false_iff_ne];exact hs
    clear HS hs;go_wp2;go_round
    case rel=>exact ⟨j,by omega,rfl,HE2.out.1⟩
    case measure=>simp [intOf]
  ·obtain rfl:k=0:=by omega
   obtain ⟨b,off,rfl,hb1,c0,-,-⟩:=(HB.out.1.below HW.out nl).sec x (by rw [HL.out.1];exact hx)
   have HF:Hid (R=ss.getD x de/\True):=⟨by rw [HRD.out.1,HE.out.1,HRD.out.2];rfl,trivial⟩
   generalize ss.getD x de=s at *;obtain ⟨sn,a2,c2,sl⟩:=s
   simp only at c0
   go_wp2
   go_ret;exact ⟨by rw [HF.out.1];rfl,HW.out⟩
structure Box1 (W:World) (b:Nat) (x:Value):Prop where
 c0:W.cell? ⟨b,0,none⟩=some x
 lt:b<W.heap.size
theorem Box1.new (w:World) (x:Value) (T:TypeId):Box1 (w.alloc (Obj.cells #[x] T)) w.heap.size x:=⟨by simp,by simp⟩
theorem Box1.keep {W W':World} {b B:Nat} {x:Value} (h:Box1 W b x) (hb:Below B W W') (hB:b<B):Box1 W' b x:=⟨kp hb hB h.c0,Nat.lt_of_lt_of_le h.lt hb.size⟩
theorem zn7 {ss ps:List El} {x:Nat} {e:El} (h:zq ps x ps.length=some e):rdE ss ps x=e:=by unfold rdE;rw [h];rfl
theorem zm0 {ss ps:List El} {x:Nat} (h:zq ps x ps.length=none):rdE ss ps x=ss.getD x de:=by unfold rdE;rw [h,Int.toNat_natCast];rfl
theorem z8e (sa pa:Option Addr) (sc pc:Nat) (ss ps:List El) (x:Int) (w:World) (hb:RawI w sa pa ss ps) (hx:ss.length<=281474976710656) (hy:ps.length<=281474976710656) (hxl:∀ s ∈ ss,s.ls.length<=281474976710656) (hyl:∀ s ∈ ps,s.ls.length<=281474976710656) :
  Calls Tryz.prog 111 #[.agg #[.slice sa ss.length sc,.slice pa ps.length pc],.int .i64 x] w fun e w'=>(∃ v,e=.returned (.tuple #[v,.bool (rdB ss ps x)])/\OVB w' w.heap.size v (rdL ss ps x))/\Below w.heap.size w w':=by
 have HB:Hid (RawI w sa pa ss ps):=hb;have HW:Hid (Bw w ((w.alloc (Obj.cells #[.slice sa ss.length sc,.slice pa ps.length pc] 40)).alloc (Obj.cells #[.int .i64 x] 3))):=((Below.refl _ _).alloc nl _).alloc (by simp) _
 have HX:Hid (Box2 ((w.alloc (Obj.cells #[.slice sa ss.length sc,.slice pa ps.length pc] 40)).alloc (Obj.cells #[.int .i64 x] 3)) w.heap.size (.slice sa ss.length sc) (.slice pa ps.length pc)/\Box1 ((w.alloc (Obj.cells #[.slice sa ss.length sc,.slice pa ps.length pc] 40)).alloc (Obj.cells #[.int .i64 x] 3)) (w.heap.size+1) (.int .i64 x)):=by
  refine ⟨(Box2.new _ _ _ _).alloc _,?_⟩;have h9:=Box1.new (w.alloc (Obj.cells #[.slice sa ss.length sc,.slice pa ps.length pc] 40)) (.int .i64 x) 3
  simpa using h9
 have HSP:=z4t sa pa sc pc ss ps _ (HB.out.below HW.out nl) hx hy hxl hyl;clear hb hxl hyl
 cases hr:rok ss ps with
 | false=>
  rw [(zc0 (x:=x) (by rw [hr];simp)).1,(zc0 (x:=x) (by rw [hr];simp)).2]
  rw [hr] at HSP;clear hr
  go_enter Tryz.func111,Tryz.ntmps111
  go_wp2_with fail
  refine HSP.mono ?_;clear HSP;rintro e w1 ⟨rfl,hb1⟩;have HB1:Hid (Bw w w1):=HW.out.trans (hb1.mono HW.out.size);clear hb1;go_wp2;exact bodyPost_ret (v:=.tuple #[.slice none 0 0,.bool false]) (by simp [results,Tryz.results111,go_sem]) rfl ⟨⟨_,rfl,OVB.nil _ _⟩,HB1.out⟩
 | true=>
  rw [hr] at HSP
  by_cases h:0<=x/\x<(ss.length:Int)
  ·obtain ⟨x,rfl⟩:=Int.eq_ofNat_of_zero_le h.1
   have hxs:x<ss.length:=by omega
   have h1:=zir hr hxs;rw [h1.1,h1.2];have hR:=z88 hr;have HR:Hid (Rok ss ps/\(rdE ss ps x).ls.length=256):=⟨hR,z9s (x:=x) hR hxs⟩;have HRS:Hid ((∀ e,zq ps x ps.length=some e->rdE ss ps x=e)/\(zq ps x ps.length=none->rdE ss ps x=ss.getD x de)):=⟨fun e h9=>zn7 h9,fun h9=>zm0 h9⟩
   have HBY:Hid (∀ W,RawI W sa pa ss ps->Byt W (rdE ss ps x).a (rdE ss ps x).ls):=fun W h9=>zfy (x:=x) h9 hxs
   obtain ⟨hR1,hR2,hR3,-,-⟩:=hR;clear h1 hr h;generalize hrd:rdE ss ps x=R at *;clear hrd
   go_enter Tryz.func111,Tryz.ntmps111
   go_wp2_with fail
   refine HSP.mono ?_;clear HSP;rintro e w1 ⟨rfl,hb1⟩;have HX1:Hid (Box2 w1 w.heap.size (.slice sa ss.length sc) (.slice pa ps.length pc)/\Box1 w1 (w.heap.size+1) (.int .i64 x)):=⟨HX.out.1.keep hb1 HX.out.1.lt,HX.out.2.keep hb1 HX.out.2.lt⟩;obtain ⟨x0,x1,-,-,xl⟩:=HX1.out.1;obtain ⟨y0,yl⟩:=HX1.out.2;have HB1:Hid (Bw w w1):=HW.out.trans (hb1.mono HW.out.size);clear hb1 HX HW;have HHS:=z3y sa pa sc pc ss.length ps.length x w1 (by omega)
   rw [decide_eq_true (show (0:Int)<=(x:Int)/\(x:Int)<(ss.length:Int) by omega)] at HHS
   go_wp2_with fail
   refine HHS.mono ?_;clear HHS;rintro e w2 ⟨rfl,hb2⟩;have HX2:Hid (Box2 w2 w.heap.size (.slice sa ss.length sc) (.slice pa ps.length pc)/\Box1 w2 (w.heap.size+1) (.int .i64 x)/\Bw w w2):=⟨HX1.out.1.keep hb2 HX1.out.1.lt,HX1.out.2.keep hb2 HX1.out.2.lt,HB1.out.trans (hb2.mono HB1.out.size)⟩;clear hb2 HB1 HX1 x0 x1 xl y0 yl;obtain ⟨x0,x1,-,-,xl⟩:=HX2.out.1;obtain ⟨y0,yl⟩:=HX2.out.2.1;have HWT:=zj8 sa pa sc pc ss.length ps w2 ((HB.out.below HX2.out.2.2 nl).2) (by omega)
   go_wp2_with fail
   refine HWT.mono ?_;clear HWT;rintro e w3 ⟨⟨Q,v,rfl,hq⟩,hb3⟩;have HX3:Hid (Box2 w3 w.heap.size (.slice sa ss.length sc) (.slice pa ps.length pc)/\Box1 w3 (w.heap.size+1) (.int .i64 x)/\Bw w w3):=⟨HX2.out.1.keep hb3 HX2.out.1.lt,HX2.out.2.1.keep hb3 HX2.out.2.1.lt,HX2.out.2.2.trans (hb3.mono HX2.out.2.2.size)⟩;obtain ⟨va,vc,rfl⟩:=hq.row.form;have h2:=HB.out.below HX3.out.2.2 nl;have HLA:=zkb Q (w.heap.size+1) va vc ps x w3 hq.box (hq.row.els (fun e he=>h2.2.1 e he)) HX3.out.2.1.c0 (by omega)
   clear hb3 HX2 x0 x1 xl y0 yl hq h2;go_wp2_with fail
   refine HLA.mono ?_;clear HLA;rintro e w4 ⟨⟨en,ea,ec,el,eb,rfl,hor⟩,hb4⟩;have HX4:Hid (Box2 w4 w.heap.size (.slice sa ss.length sc) (.slice pa ps.length pc)/\Box1 w4 (w.heap.size+1) (.int .i64 x)/\Bw w w4):=⟨HX3.out.1.keep hb4 HX3.out.1.lt,HX3.out.2.1.keep hb4 HX3.out.2.1.lt,HX3.out.2.2.trans (hb4.mono HX3.out.2.2.size)⟩;clear hb4 HX3;have HW5:Hid (Bw w (w4.alloc (Obj.cells #[.int .i64 en,.slice ea el.length ec] 123))):=HX4.out.2.2.alloc HX4.out.2.2.size _
   rcases hor with ⟨rfl,hl⟩ | ⟨rfl,hl⟩
   ·obtain rfl:=HRS.out.1 _ hl
    have HCL:=z0w ea ec el _ (HBY.out _ (HB.out.below HW5.out nl)) (by have:=HR.out.2;simp only at this;omega)
    clear hl HRS HBY;go_wp2_with fail
    refine HCL.mono ?_;clear HCL;rintro e w6 ⟨⟨v,rfl,hov⟩,hb6⟩;have HV:Hid (OVB w6 w.heap.size v el/\Bw w w6):=⟨hov.weak HW5.out.size,HW5.out.trans (hb6.mono HW5.out.size)⟩;clear hov hb6;go_wp2;exact bodyPost_ret (v:=.tuple #[v,.bool true]) (by simp [results,Tryz.results111,go_sem]) rfl ⟨⟨_,rfl,HV.out.1⟩,HV.out.2⟩
   ·obtain rfl:=HRS.out.2 hl
    obtain ⟨x0,x1,-,-,xl⟩:=HX4.out.1;obtain ⟨y0,yl⟩:=HX4.out.2.1;have hb5:Bw w4 (w4.alloc (Obj.cells #[.int .i64 en,.slice ea el.length ec] 123)):=ba;obtain ⟨b,off,rfl,hb1,c0,hby,-⟩:=(HB.out.below HX4.out.2.2 nl).1.sec x hxs;have HCL:=z0w (ss.getD x de).a (ss.getD x de).c (ss.getD x de).ls _ (hby.below hb5 nl) (by have:=HR.out.2;omega)
    clear hl HRS HBY hby hb5;generalize hse:ss.getD x de=s at *;have HSE:Hid (ss.getD x de=s/\True):=⟨hse,trivial⟩;clear hse;go_wp2_with fail
    refine HCL.mono ?_;clear HCL;rintro e w6 ⟨⟨v,rfl,hov⟩,hb6⟩;have HV:Hid (OVB w6 w.heap.size v s.ls/\Bw w w6):=⟨hov.weak HW5.out.size,HW5.out.trans (hb6.mono HW5.out.size)⟩;clear hov hb6;go_wp2;exact bodyPost_ret (v:=.tuple #[v,.bool true]) (by simp [results,Tryz.results111,go_sem]) rfl ⟨⟨_,rfl,by rw [HSE.out.1];exact HV.out.1⟩,HV.out.2⟩
  ·rw [(zc0 (x:=x) (fun h9=>h h9.2)).1,(zc0 (x:=x) (fun h9=>h h9.2)).2]
   clear hr
   go_enter Tryz.func111,Tryz.ntmps111
   go_wp2_with fail
   refine HSP.mono ?_;clear HSP;rintro e w1 ⟨rfl,hb1⟩;obtain ⟨x0,x1,-,-,xl⟩:=HX.out.1.keep hb1 HX.out.1.lt;obtain ⟨y0,yl⟩:=HX.out.2.keep hb1 HX.out.2.lt;have HB1:Hid (Bw w w1):=HW.out.trans (hb1.mono HW.out.size);clear hb1;have HHS:=z3y sa pa sc pc ss.length ps.length x w1 (by omega)
   rw [decide_eq_false h] at HHS;go_wp2_with fail
   refine HHS.mono ?_;clear HHS;rintro e w2 ⟨rfl,hb2⟩;have HB2:Hid (Bw w w2):=HB1.out.trans (hb2.mono HB1.out.size);clear hb2;go_wp2;exact bodyPost_ret (v:=.tuple #[.slice none 0 0,.bool false]) (by simp [results,Tryz.results111,go_sem]) rfl ⟨⟨_,rfl,OVB.nil _ _⟩,HB2.out⟩
end Go.Proofs.YtkomjdjfknpinaaGreatDoor
