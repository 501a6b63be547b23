import Derived.Test.YtjmcjbmjgpponaaGreatDoorDrPkC
import Derived.Test.YtjmcjbmjgpponaaGreatDoorDrBnM
set_option maxRecDepth 20000
set_option maxHeartbeats 16000000
namespace Go.Proofs.YtjmcjbmjgpponaaGreatDoor
open Go.RowKit
set_option linter.unusedVariables false
set_option linter.unusedSimpArgs false
theorem z8l (a:Option Addr) (bs:List Int) (cap:Nat) (w:World) (hb:Byt w a bs) (hl:bs.length<=maxLen) :
  Calls Tryz.prog 19 #[.slice a bs.length cap] w fun e w'=>∃ (va:Option Addr) (vc:Nat) (ps:List (Int × Int)) (s E O:Int) (a':Option Addr) (c':Nat) (es:List El),e=.returned (.tuple #[.agg #[.slice va ps.length vc],.int .i64 s,.agg #[.int .i64 E,.int .i64 O,.slice a' es.length c']])/\ps.length<=20/\(1<=s/\s<=24)/\(-1<=E/\E<=60001)/\(-1<=O/\O<=60001)/\Pls w' va ps/\PkD w' w.heap.size (.slice a' es.length c') es/\Below w.heap.size w w':=by
 have hbA:Below w.heap.size w ((w.alloc (Obj.cells #[.slice none 0 0] 46)).alloc (Obj.cells #[.int .i64 0,.int .i64 0,.slice none 0 0] 25)):=((Below.refl _ _).alloc nl _).alloc (by simp) _
 have hx2:Box3 ((w.alloc (Obj.cells #[.slice none 0 0] 46)).alloc (Obj.cells #[.int .i64 0,.int .i64 0,.slice none 0 0] 25)) (w.heap.size+1) (.int .i64 0) (.int .i64 0) (.slice none 0 0):=by
  have h:=Box3.new (w.alloc (Obj.cells #[.slice none 0 0] 46)) (.int .i64 0) (.int .i64 0) (.slice none 0 0) 25
  simpa using h
 have HX:Hid (Box3 ((w.alloc (Obj.cells #[.slice none 0 0] 46)).alloc (Obj.cells #[.int .i64 0,.int .i64 0,.slice none 0 0] 25)) (w.heap.size+1) (.int .i64 0) (.int .i64 0) (.slice none 0 0)/\((w.alloc (Obj.cells #[.slice none 0 0] 46)).alloc (Obj.cells #[.int .i64 0,.int .i64 0,.slice none 0 0] 25)).cell? ⟨w.heap.size,0,none⟩=some (.slice none 0 0)/\((w.alloc (Obj.cells #[.slice none 0 0] 46)).alloc (Obj.cells #[.int .i64 0,.int .i64 0,.slice none 0 0] 25)).frozen? ⟨w.heap.size,0,none⟩=false/\Below w.heap.size w ((w.alloc (Obj.cells #[.slice none 0 0] 46)).alloc (Obj.cells #[.int .i64 0,.int .i64 0,.slice none 0 0] 25))/\((w.alloc (Obj.cells #[.slice none 0 0] 46)).alloc (Obj.cells #[.int .i64 0,.int .i64 0,.slice none 0 0] 25)).heap.size=w.heap.size+2):=
  ⟨hx2,zb _ (by simp) (by simp),by rw [World.frozen?_of_block (a:=⟨w.heap.size,0,none⟩) (Below.heap_alloc _ _ _ (by simp))];simp,hbA,by simp⟩
 have HN:=zie a bs cap _ (hb.below hbA nl) hl;clear hbA hb hx2
 go_enter Tryz.func19,Tryz.ntmps19
 go_wp2_with fail
 generalize (w.alloc (Obj.cells #[.slice none 0 0] 46)).alloc (Obj.cells #[.int .i64 0,.int .i64 0,.slice none 0 0] 25)=w0 at *;refine HN.mono ?_;clear HN;rintro e w1 ⟨rfl,hd1⟩;have HD1:Hid (Dr w0 w1 w0.heap.size w0.heap.size a bs cap):=hd1;have hR1:=hd1.cur.lt;clear hd1;go_wp2_with fail
 refine HD1.out.bentM.mono ?_;rintro e w2 ⟨va,vc,ps,rfl,hpl,hmp,hd2,ho2⟩;have HS2:Hid (MinP w2 w1.heap.size w2.heap.size va vc ps/\Dr w0 w2 w0.heap.size w0.heap.size a bs cap/\w1.heap.size<=w2.heap.size):=⟨hmp,hd2,ho2.size⟩;clear hmp hd2 ho2 HD1;have HIN:Hid (∀ T,Ins (w2.alloc (.cells #[.int .i64 1,.int .i64 2,.int .i64 7,.int .i64 8,.int .i64 9,.int .i64 9,.int .i64 9,.int .i64 23,.int .i64 24] T)) (some ⟨w2.heap.size,0,none⟩) [1,2,7,8,9,9,9,23,24]):=fun T=>by
  have:=z55 w2 T [1,2,7,8,9,9,9,23,24] (by intro z hz;simp at hz;omega)
  simpa using this
 have hoa:Only (fun _=>False) w2 (w2.alloc (.cells #[.int .i64 1,.int .i64 2,.int .i64 7,.int .i64 8,.int .i64 9,.int .i64 9,.int .i64 9,.int .i64 23,.int .i64 24] 3)):=(Only.refl _ _).alloc _
 have hs12:=HS2.out.2.2;go_wp2_with fail
 refine ((HS2.out.2.1.other hoa (by simp) (by simp)).pick w2.heap.size 9 [1,2,7,8,9,9,9,23,24] (HIN.out _) (by omega) (by simp) (by simp)).mono ?_
 rintro e w3 ⟨⟨s,hs,rfl⟩,hd3,ho3⟩;have hs2:1<=s/\s<=24:=by simp at hs;omega
 have HS3:Hid (MinP w3 w1.heap.size w2.heap.size va vc ps/\Dr w0 w3 w0.heap.size w0.heap.size a bs cap/\w2.heap.size<=w3.heap.size):=⟨(HS2.out.1.only hoa (by simp)).only ho3 (fun k h1 h2 e=>by omega),hd3,by have:=ho3.size;simp at this;omega⟩
 clear hd3 ho3 HS2 HIN hoa hs;go_wp2_with fail
 refine HS3.out.2.1.bentPk.mono ?_;rintro e w4 ⟨E,O,a4,c4,es,rfl,hE,hO,hpd,hd4,ho4⟩;have hw0:=HX.out.2.2.2.2;have hb4:Below w0.heap.size w0 w4:=hd4.bel;have hm4:MinP w4 w1.heap.size w2.heap.size va vc ps:=HS3.out.1.only ho4 (fun k h1 h2 e=>by omega)
 have hw3:=HS3.out.2.2;obtain ⟨d0,d1,d2,df0,df1,df2,dlt⟩:=HX.out.1.keep hb4 HX.out.1.lt;have m0:=keep hb4 (b:=w.heap.size) (by omega) HX.out.2.1
 have mf:w4.frozen? ⟨w.heap.size,0,none⟩=false:=(hb4.frozen (p:=⟨w.heap.size,0,none⟩) (by simp only;omega)).trans HX.out.2.2.1
 have HF:Hid (Pls ((((w4.setCell ⟨w.heap.size,0,none⟩ (.slice va ps.length vc)).setCell ⟨w.heap.size+1,0,none⟩ (.int .i64 E)).setCell ⟨w.heap.size+1,1,none⟩ (.int .i64 O)).setCell ⟨w.heap.size+1,2,none⟩ (.slice a4 es.length c4)) va ps/\PkD ((((w4.setCell ⟨w.heap.size,0,none⟩ (.slice va ps.length vc)).setCell ⟨w.heap.size+1,0,none⟩ (.int .i64 E)).setCell ⟨w.heap.size+1,1,none⟩ (.int .i64 O)).setCell ⟨w.heap.size+1,2,none⟩ (.slice a4 es.length c4)) w.heap.size (.slice a4 es.length c4) es/\Below w.heap.size w ((((w4.setCell ⟨w.heap.size,0,none⟩ (.slice va ps.length vc)).setCell ⟨w.heap.size+1,0,none⟩ (.int .i64 E)).setCell ⟨w.heap.size+1,1,none⟩ (.int .i64 O)).setCell ⟨w.heap.size+1,2,none⟩ (.slice a4 es.length c4))):=by
  have ho:Only (fun b=>b<w.heap.size+2) w4 ((((w4.setCell ⟨w.heap.size,0,none⟩ (.slice va ps.length vc)).setCell ⟨w.heap.size+1,0,none⟩ (.int .i64 E)).setCell ⟨w.heap.size+1,1,none⟩ (.int .i64 O)).setCell ⟨w.heap.size+1,2,none⟩ (.slice a4 es.length c4)):=((((Only.refl _ w4).setCell (p:=⟨w.heap.size,0,none⟩) (.inl (by simp only;omega)) _).setCell (p:=⟨w.heap.size+1,0,none⟩) (.inl (by simp only;omega)) _).setCell (p:=⟨w.heap.size+1,1,none⟩) (.inl (by simp only;omega)) _).setCell (p:=⟨w.heap.size+1,2,none⟩) (.inl (by simp only;omega)) _
  exact ⟨(hm4.only ho (fun k h1 h2 h3=>by omega)).pls,(hpd.stay ho (fun k hk _ h=>by omega)).weak (by omega),((((HX.out.2.2.2.1.trans (hb4.mono (by omega))).setCell (p:=⟨w.heap.size,0,none⟩) nl _).setCell (p:=⟨w.heap.size+1,0,none⟩) (by simp only;omega) _).setCell (p:=⟨w.heap.size+1,1,none⟩) (by simp only;omega) _).setCell (p:=⟨w.heap.size+1,2,none⟩) (by simp only;omega) _⟩
 clear hpd hd4 ho4 hm4 HS3 HX hb4;go_wp2;exact bodyPost_ret (v:=.tuple #[.agg #[.slice va ps.length vc],.int .i64 s,.agg #[.int .i64 E,.int .i64 O,.slice a4 es.length c4]]) (by simp [results,Tryz.results19,go_sem,d0,d1,d2,m0]) rfl ⟨va,vc,ps,s,E,O,a4,c4,es,rfl,hpl,hs2,hE,hO,HF.out⟩
theorem OVp.empty (w:World) (B:Nat) (hB:B<=w.heap.size):OVp (w.alloc (Obj.cells #[] 54)) B (.slice (some ⟨w.heap.size,0,none⟩) 0 0) []:=
 ⟨⟨by simp,.inr ⟨w.heap.size,0,#[],rfl,hB,zeo w _,Nat.le_refl _,by simp,by simp,by simp⟩⟩,by simp⟩
theorem zm0 (p:Int × Int):∀ u ∈ pcs p,u.oneCell'=true:=by
 intro u hu
 simp [pcs] at hu
 rcases hu with rfl | rfl <;> rfl
theorem zbn (S:TypeId) (hS:Tryz.prog.underlying S=some (.slice 54)) {o:Oper} {a:Act} {w:World} {K:Act->World->Prop} {Q:Exit->Act->World->Prop} (s x:Operand) (ho:o.op=.call { callee:=.builtin .append,args:=#[s,x],argTypes:=#[S,S] })
  (B:Nat) (v:Value) (ps qs:List (Int × Int)) (hs:a.eval s=v) (hown:OVp w B v ps) (xa:Addr) (c:Nat) (hx:a.eval x=.slice (some xa) qs.length c) (hX:Pls w (some xa) qs) (hb1:ps.length+qs.length<=1000000) (hbase:B<=w.heap.size)
  (h:∀ v' w',OVp w' B v' (ps++qs)->w.grownBy w' v.ownBlock->K (a.put o.dst v') w'):o.wp Tryz.prog a w K Q:=by
 obtain ⟨i0,hi,hz0',hz1',hz2⟩:=info_parts Tryz.infoPl;have hnews:∀ j u,(qs.flatMap pcs)[j]?=some u->w.cell? (xa.add j)=some u:=by
  intro j u hu
  have hj:j<qs.length*2:=by
   rcases Nat.lt_or_ge j (qs.length*2) with h | h
   ·exact h
   ·rw [List.getElem?_eq_none (by rw [z6e];exact h)] at hu;cases hu
  have hi1:j / 2<qs.length:=by omega
  obtain ⟨b,off,e,hb,hc⟩:=hX.2 (Nat.lt_of_le_of_lt (Nat.zero_le _) hi1);obtain rfl:xa=⟨b,off,none⟩:=by simpa using e
  have hg:=z6c qs (j / 2) hi1;have hl:=hc (j / 2) hi1;rw [z4u];have h2:j=j / 2*2\/j=j / 2*2+1:=by omega
  rcases h2 with h2 | h2
  ·rw [<-h2] at hg hl
   rw [hl.1,<-hg.1,hu]
  ·rw [<-h2] at hg
   rw [show off+j=off+j / 2*2+1 from by omega,hl.2,<-hg.2,hu]
 have hone:∀ u ∈ qs.flatMap pcs,u.oneCell'=true:=by
  intro u hu
  obtain ⟨e,_,he⟩:=List.mem_flatMap.1 hu;exact zm0 e u he
 obtain ⟨v',w',hr,h2,h3,_,_⟩:=run_append_own_at (P:=Tryz.prog) w B S o.type 54 i0 (.agg #[.int .i64 0,.int .i64 0]) 2 16 hS hi hz0' hz1' hz2 rfl (by decide) v ps.length _ hown.1 xa qs.length c (qs.flatMap pcs) (z6e qs) hnews hone (by unfold maxLen;omega) (by omega) hbase
 unfold Oper.wp execOp
 simp only [ho,resolve,invoke,builtin,Sem.run_bind,Sem.run_pure,Result.andThen_ok,List.map_toArray,List.map_cons,List.map_nil,hs,hx,hr]
 refine h v' w' ⟨?_,fun q hq=>?_⟩ h3
 ·rw [List.length_append,List.flatMap_append]
  exact h2
 ·rcases List.mem_append.1 hq with hq | hq
  ·exact hown.2 q hq
  ·exact hX.1 q hq
theorem z79 (S:TypeId) (hS:Tryz.prog.underlying S=some (.slice 54)) {ops:Array Oper} {rest:List Oper} {o:Oper} {a:Act} {Q:Exit->Act->World->Prop} {w:World} (hgd:o.guard=none) (s x:Operand) (ho:o.op=.call { callee:=.builtin .append,args:=#[s,x],argTypes:=#[S,S] })
  (B:Nat) (v:Value) (ps qs:List (Int × Int)) (hs:a.eval s=v) (hown:OVp w B v ps) (xa:Addr) (c:Nat) (hx:a.eval x=.slice (some xa) qs.length c) (hX:Pls w (some xa) qs) (hb1:ps.length+qs.length<=1000000) (hbase:B<=w.heap.size)
  (h:∀ v' w',OVp w' B v' (ps++qs)->w.grownBy w' v.ownBlock->wpList Tryz.prog ops Q rest (a.put o.dst v') w'):wpList Tryz.prog ops Q (o :: rest) a w:=
 wpList_plain hgd fun _ hK=>zbn S hS s x ho B v ps qs hs hown xa c hx hX hb1 hbase fun v' w' h1 h2=>hK _ _ (h v' w' h1 h2)
theorem zkz {w:World} {ps:List (Int × Int)} (h:Pls w none ps):ps=[]:=by
 rcases Nat.eq_zero_or_pos ps.length with h0 | h0
 ·exact List.eq_nil_of_length_eq_zero h0
 ·obtain ⟨b,off,e,_⟩:=h.2 h0
  cases e
theorem zhg {w0 wr w1:World} {B:Nat} {v:Value} {ps:List (Int × Int)} (hbel:Below B w0 wr) (hB:B<=wr.heap.size) (h:OVp wr B v ps) (hg:wr.grownBy w1 v.ownBlock):Below B w0 w1:=
 hbel.grown hg hB (fun k hk=>(h.blk hk).1)
theorem zf6 (a:Option Addr) (cap:Nat) (ps:List (Int × Int)) (w:World) (hb:Pls w a ps) (hn:ps.length<=1000000) :
  Calls Tryz.prog 74 #[.slice a ps.length cap] w fun e w'=>(∃ v,e=.returned v/\OVp w' w.heap.size v ps)/\Below w.heap.size w w':=by
 cases a with
 | none=>
  have hz:=zkz hb;subst hz;have heq:(binOp .eql 85 (.slice none 0 cap) (.slice none 0 0)).run Tryz.prog w=.ok (.bool true) w:=Lib.run_eql_slice_nil w _ _ none 0 cap 0 0 Tryz.underlying85
  go_enter Tryz.func74,Tryz.ntmps74
  go_wp2
  go_ret;exact ⟨⟨_,rfl,OVp.nil _ _⟩,Below.refl _ _⟩
 | some ad=>
  have HO:Hid (OVp (w.alloc (Obj.cells #[] 54)) w.heap.size (.slice (some ⟨w.heap.size,0,none⟩) 0 0) []):=OVp.empty w _ nl;have HB:Hid (Bw w (w.alloc (Obj.cells #[] 54))):=bAw;have HY:Hid (Pls (w.alloc (Obj.cells #[] 54)) (some ad) ps):=hb.below HB.out nl;clear hb;have heq:(binOp .eql 85 (.slice (some ad) ps.length cap) (.slice none 0 0)).run Tryz.prog w=.ok (.bool false) w:=Lib.run_eql_slice_nil w _ _ (some ad) ps.length cap 0 0 Tryz.underlying85
  go_enter Tryz.func74,Tryz.ntmps74
  go_wp2_with (at_builtin;(refine z79 85 Tryz.underlying85 rfl (.tmp 5) (.tmp 6) rfl w.heap.size (.slice (some ⟨w.heap.size,0,none⟩) 0 0) [] ps rfl HO.out ad cap rfl HY.out (by simp;omega) (by simp) ?_;intro v1 w1 hov1 hgr1;have HB1:Hid (Below w.heap.size w w1):=zhg HB.out (by simp) HO.out hgr1;have HV1:Hid (OVp w1 w.heap.size v1 ps):=(by rw [List.nil_append] at hov1;exact hov1);clear hov1 hgr1))
  go_ret;exact ⟨⟨_,rfl,HV1.out⟩,HB1.out⟩
theorem z1l (x:Int) (w:World) :
  Calls Tryz.prog 54 #[.int .i64 x] w fun e w'=>e=.returned (.bool (decide (2<=x/\x<=23)))/\w'=w:=by
 have key:(2<=x/\x<24)\/x<2\/(2<=x/\24<=x):=by omega
 rcases key with ⟨h1,h2⟩ | h1 | ⟨h1,h2⟩
 ·rw [decide_eq_true (show 2<=x/\x<=23 by omega)]
  go_enter Tryz.func54,Tryz.ntmps54
  go_wp2
  go_ret;exact ⟨by simp [h1,h2],rfl⟩
 ·rw [decide_eq_false (show ¬(2<=x/\x<=23) by omega)]
  go_enter Tryz.func54,Tryz.ntmps54
  go_wp2
  go_ret;exact ⟨rfl,rfl⟩
 ·rw [decide_eq_false (show ¬(2<=x/\x<=23) by omega)]
  have h3:¬x<24:=by omega
  go_enter Tryz.func54,Tryz.ntmps54
  go_wp2
  go_ret;exact ⟨by simp [h3],rfl⟩
theorem z5t (x y:Int) (w:World) :
  Calls Tryz.prog 57 #[.agg #[.int .i64 x,.int .i64 y]] w fun e w'=>e=.returned (.bool (nwh (x,y)))/\Below w.heap.size w w':=by
 have key:(x=0/\y=0)\/(x=0/\¬y=0)\/¬x=0:=by omega
 rcases key with ⟨rfl,rfl⟩ | ⟨rfl,h⟩ | h
 ·go_enter Tryz.func57,Tryz.ntmps57
  go_wp2
  go_ret;exact ⟨rfl,(Below.refl _ _).alloc nl _⟩
 ·rw [show nwh (0,y)=false from by unfold nwh;simp [h]]
  go_enter Tryz.func57,Tryz.ntmps57
  go_wp2
  go_ret;exact ⟨rfl,(Below.refl _ _).alloc nl _⟩
 ·rw [show nwh (x,y)=false from by unfold nwh;simp [h]]
  go_enter Tryz.func57,Tryz.ntmps57
  go_wp2
  go_ret;exact ⟨rfl,(Below.refl _ _).alloc nl _⟩
theorem zjw (x y:Int) (w:World) :
  Calls Tryz.prog 87 #[.agg #[.int .i64 x,.int .i64 y]] w fun e w'=>e=.returned (.bool (rgt (x,y)))/\Below w.heap.size w w':=by
 have hw:Bw w (w.alloc (Obj.cells #[.int .i64 x,.int .i64 y] 54)):=bAw;have key:(2<=x/\x<=23)\/¬(2<=x/\x<=23):=by omega
 rcases key with h | h
 ·have kk:(0<=y/\y<16)\/¬(0<=y)\/(0<=y/\¬y<16):=by omega
  rcases kk with ⟨h1,h2⟩ | h1 | ⟨h1,h2⟩
  ·rw [show rgt (x,y)=true from decide_eq_true ⟨h.1,h.2,h1,by simp only;omega⟩]
   go_enter Tryz.func87,Tryz.ntmps87
   go_wp2_with fail
   refine (z1l x _).mono ?_;rintro e w1 ⟨rfl,rfl⟩;rw [decide_eq_true h];go_wp2;go_ret;exact ⟨by simp [h1,h2],hw⟩
  ·rw [show rgt (x,y)=false from decide_eq_false (fun hh=>h1 hh.2.2.1)]
   go_enter Tryz.func87,Tryz.ntmps87
   go_wp2_with fail
   refine (z1l x _).mono ?_;rintro e w1 ⟨rfl,rfl⟩;rw [decide_eq_true h];go_wp2;go_ret;exact ⟨by simp [h1],hw⟩
  ·rw [show rgt (x,y)=false from decide_eq_false (fun hh=>h2 (by have:=hh.2.2.2;simp only at this;omega))]
   go_enter Tryz.func87,Tryz.ntmps87
   go_wp2_with fail
   refine (z1l x _).mono ?_;rintro e w1 ⟨rfl,rfl⟩;rw [decide_eq_true h];go_wp2;go_ret;exact ⟨by simp [h1,h2],hw⟩
 ·rw [show rgt (x,y)=false from decide_eq_false (fun hh=>h ⟨hh.1,hh.2.1⟩)]
  go_enter Tryz.func87,Tryz.ntmps87
  go_wp2_with fail
  refine (z1l x _).mono ?_;rintro e w1 ⟨rfl,rfl⟩;rw [decide_eq_false h];go_wp2;go_ret;exact ⟨rfl,hw⟩
theorem z82 (a:Option Addr) (n c:Nat) (x:Int) (w:World) (hn:n<=1048576) :
  Calls Tryz.prog 75 #[.slice a n c,.int .i64 x] w fun e w'=>e=.returned (.bool (decide (0<=x/\x<n)))/\w'=w:=by
 have key:(0<=x/\x<n)\/¬0<=x\/(0<=x/\¬x<n):=by omega
 rcases key with ⟨h1,h2⟩ | h1 | ⟨h1,h2⟩
 ·rw [decide_eq_true ⟨h1,h2⟩]
  go_enter Tryz.func75,Tryz.ntmps75
  go_wp2
  go_ret;exact ⟨by simp [h1,h2],rfl⟩
 ·rw [decide_eq_false (fun hh=>h1 hh.1)]
  go_enter Tryz.func75,Tryz.ntmps75
  go_wp2
  go_ret;exact ⟨by simp [h1],rfl⟩
 ·rw [decide_eq_false (fun hh=>h2 hh.2)]
  go_enter Tryz.func75,Tryz.ntmps75
  go_wp2
  go_ret;exact ⟨by simp [h1,h2],rfl⟩
def z0h (ps:List (Int × Int)) (x:Int):Int × Int:=if 0<=x/\x<ps.length then ps.getD x.toNat dp else dp
theorem z48 (a:Option Addr) (c:Nat) (ps:List (Int × Int)) (x:Int) (w:World) (hb:Pls w a ps) (hn:ps.length<=1048576) :
  Calls Tryz.prog 56 #[.slice a ps.length c,.int .i64 x] w fun e w'=>e=.returned (.agg #[.int .i64 (z0h ps x).1,.int .i64 (z0h ps x).2])/\Below w.heap.size w w':=by
 have hw:Bw w (w.alloc (Obj.cells #[.int .i64 0,.int .i64 0] 54)):=bAw
 by_cases h:0<=x/\x<ps.length
 ·obtain ⟨k,rfl⟩:=Int.eq_ofNat_of_zero_le h.1
  have hk:k<ps.length:=by omega
  have he:z0h ps (k:Nat)=ps.getD k dp:=by unfold z0h;rw [if_pos h,Int.toNat_natCast]
  rw [he];obtain ⟨b,off,rfl,hb1,hc1⟩:=(hb.alloc (Obj.cells #[.int .i64 0,.int .i64 0] 54)).len_pos k hk;obtain ⟨c0,c1⟩:=hc1 k hk;have hbw:b<w.heap.size:=by
   obtain ⟨b',off',e,hb',_⟩:=hb.2 (by omega)
   simp at e
   omega
  clear hc1 he hb;generalize ps.getD k dp=p at *;generalize ps.length=n at *;obtain ⟨x,y⟩:=p
  simp only at c0 c1 ⊢
  go_enter Tryz.func56,Tryz.ntmps56
  go_wp2_with fail
  refine (z82 _ n c k _ hn).mono ?_;rintro e w1 ⟨rfl,rfl⟩;rw [decide_eq_true h];go_wp2;refine bodyPost_ret (v:=.agg #[.int .i64 x,.int .i64 y]) (by simp [results,Tryz.results56,go_sem]) rfl ⟨rfl,?_⟩
  repeat (refine Below.setCell ?_ (by first | (simp;done) | (simp;omega)) _)
  first | exact hw | exact (Below.refl _ _).alloc nl _
 ·have he:z0h ps x=dp:=by unfold z0h;rw [if_neg h]
  rw [he];clear he hb
  go_enter Tryz.func56,Tryz.ntmps56
  go_wp2_with fail
  refine (z82 a ps.length c x _ hn).mono ?_;rintro e w1 ⟨rfl,rfl⟩;rw [decide_eq_false h];go_wp2;refine bodyPost_ret (v:=.agg #[.int .i64 0,.int .i64 0]) (by simp [results,Tryz.results56,go_sem]) rfl ⟨rfl,?_⟩
  repeat (refine Below.setCell ?_ (by first | (simp;done) | (simp;omega)) _)
  first | exact hw | exact (Below.refl _ _).alloc nl _
theorem za4 (ps:List (Int × Int)) (k:Nat) (h:k<ps.length):z0h ps k=ps.getD k dp:=by unfold z0h;rw [if_pos (by omega),Int.toNat_natCast]
end Go.Proofs.YtjmcjbmjgpponaaGreatDoor
