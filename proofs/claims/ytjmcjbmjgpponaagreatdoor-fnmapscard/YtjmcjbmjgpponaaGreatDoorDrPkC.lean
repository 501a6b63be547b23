import Derived.Test.YtjmcjbmjgpponaaGreatDoorPkB
set_option maxRecDepth 20000
set_option maxHeartbeats 16000000
namespace Go.Proofs.YtjmcjbmjgpponaaGreatDoor
open Go.RowKit
set_option linter.unusedVariables false
set_option linter.unusedSimpArgs false
theorem zdm (a:Option Addr) (c:Nat) (ys:List Int) (w:World) (hb:Byt w a ys) (hn:ys.length=64) :
  Calls Tryz.prog 45 #[.slice a 64 c] w fun e w'=>pkS w w' (enK ys 3) e:=
 zeg (enK ys) (fun k=>pkV k ys) (z15 ys) a c w rfl (zo8 hn) (fun k h1 h2=>zn2 hn k h2 (by omega)) (fun k=>z9w hn k) (fun k _=>zog hn hb.1 k) (fun k W hk hW=>z65 k a c ys W (hb.below hW nl) hn hk) (fun W hW=>zfa a c ys W (hb.below hW nl) hn)
structure PkD (w:World) (B:Nat) (v:Value) (es:List El):Prop where
 row:OVt w B v es
 lets:∀ e ∈ es,Mine w B w.heap.size e.a e.c e.ls
 rng:∀ e ∈ es,rE true e/\e.ls.length<=601
 n:es.length<=40
section
variable {w w' : World} {B : Nat} {v : Value} {es : List El}
theorem PkD.nil (w:World) (B:Nat):PkD w B (.slice none 0 0) []:=⟨OVt.nil _ _,by simp,by simp,by simp⟩
theorem PkD.stay {S:Nat->Prop} (h:PkD w B v es) (ho:Only S w w') (hs:∀ k,B<=k->k<w.heap.size->¬S k):PkD w' B v es:=
 ⟨h.row.stay ho (fun k hk=>hs k (h.row.blk hk).1 (h.row.blk hk).2),fun e he=>((h.lets e he).stay ho (fun k hk=>hs k ((h.lets e he).rowE hk).1 ((h.lets e he).rowE hk).2)).mono nl ho.size,h.rng,h.n⟩
theorem PkD.below (h:PkD w B v es) (hb:Below w.heap.size w w'):PkD w' B v es:=h.stay (Only.ofBelow (S:=fun _=>False) hb nl) (by simp)
theorem PkD.weak {B':Nat} (h:PkD w B v es) (hB:B'<=B):PkD w B' v es:=⟨h.row.weak hB,fun e he=>(h.lets e he).mono hB nl,h.rng,h.n⟩
theorem Mine.capK {a:Option Addr} {U c:Nat} {zs:List Int} (h:Mine w B U a c zs):zs.length<=c:=h.ovbO.cap.1
theorem PkD.its {a:Option Addr} {n c:Nat} (h:PkD w B (.slice a n c) es):ItI w a es:=
 ⟨h.row.els (fun e he=>⟨(h.rng e he).1,(h.lets e he).byt⟩),fun e he=>(h.lets e he).capK⟩
theorem zbb :∀ {es:List El},(∀ e ∈ es,e.ls.length<=601)->zl es<=es.length*601
 | [],_=>by simp [zl]
 | e :: es,h=>by
  have h1:=h e (by simp)
  have h2:=zbb (es:=es) (fun x hx=>h x (by simp [hx]))
  simp only [zl,List.length_cons]
  omega
theorem PkD.few (h:PkD w B v es):z29 es:=by
 have h1:=zbb (fun e he=>(h.rng e he).2)
 have h2:=h.n;exact ⟨by omega,fun e he=>by have:=(h.rng e he).2;omega,by omega⟩
theorem z8g {x:Int} {es:List El}:∀ e ∈ z2k x es,e ∈ es:=fun e he=>(List.mem_filter.1 he).1
theorem PkD.add {w0:World} {v':Value} {q:El} (h:PkD w0 B v es) (hb:Below w0.heap.size w0 w') (hq:Mine w0 B w0.heap.size q.a q.c q.ls) (hr:rE true q/\q.ls.length<=601) (hn:es.length<=39) (ho:OVt w' B v' (z2f es q)):PkD w' B v' (z2f es q):=by
 have hl:=z7r q.n es;refine ⟨ho,fun e he=>?_,fun e he=>?_,by unfold z2f;simp;omega⟩
 ·unfold z2f at he
  rcases List.mem_append.1 he with he | he
  ·exact ((h.lets e (z8g e he)).below hb).mono nl hb.size
  ·obtain rfl:e=q:=by simpa using he
   exact (hq.below hb).mono nl hb.size
 ·unfold z2f at he
  rcases List.mem_append.1 he with he | he
  ·exact h.rng e (z8g e he)
  ·obtain rfl:e=q:=by simpa using he
   exact hr
end
theorem Box3.onlyK {S:Nat->Prop} {W W':World} {b:Nat} {x y z:Value} (h:Box3 W b x y z) (ho:Only S W W') (hb:¬S b):Box3 W' b x y z:=
 ⟨ho.cell h.lt hb h.c0,ho.cell h.lt hb h.c1,ho.cell h.lt hb h.c2,(z5l ho h.lt hb).trans h.f0,(z5l ho h.lt hb).trans h.f1,(z5l ho h.lt hb).trans h.f2,Nat.lt_of_lt_of_le h.lt ho.size⟩
theorem Box2.onlyK {S:Nat->Prop} {W W':World} {b:Nat} {x y:Value} (h:Box2 W b x y) (ho:Only S W W') (hb:¬S b):Box2 W' b x y:=
 ⟨ho.cell h.lt hb h.c0,ho.cell h.lt hb h.c1,(z5l ho h.lt hb).trans h.f0,(z5l ho h.lt hb).trans h.f1,Nat.lt_of_lt_of_le h.lt ho.size⟩
theorem Box3.set0K {W:World} {b:Nat} {x y z:Value} (h:Box3 W b x y z) (u:Value):Box3 (W.setCell ⟨b,0,none⟩ u) b u y z:=by
 obtain ⟨h0,h1,h2,h3,h4,h5,h6⟩:=h;exact ⟨World.cell?_setCell_same W _ _ h0,(World.cell?_setCell_other W _ _ _ (by simp)).trans h1,(World.cell?_setCell_other W _ _ _ (by simp)).trans h2,by simp [h3],by simp [h4],by simp [h5],by simpa using h6⟩
theorem Box3.set1K {W:World} {b:Nat} {x y z:Value} (h:Box3 W b x y z) (u:Value):Box3 (W.setCell ⟨b,1,none⟩ u) b x u z:=by
 obtain ⟨h0,h1,h2,h3,h4,h5,h6⟩:=h;exact ⟨(World.cell?_setCell_other W _ _ _ (by simp)).trans h0,World.cell?_setCell_same W _ _ h1,(World.cell?_setCell_other W _ _ _ (by simp)).trans h2,by simp [h3],by simp [h4],by simp [h5],by simpa using h6⟩
theorem Box3.set2K {W:World} {b:Nat} {x y z:Value} (h:Box3 W b x y z) (u:Value):Box3 (W.setCell ⟨b,2,none⟩ u) b x y u:=by
 obtain ⟨h0,h1,h2,h3,h4,h5,h6⟩:=h;exact ⟨(World.cell?_setCell_other W _ _ _ (by simp)).trans h0,(World.cell?_setCell_other W _ _ _ (by simp)).trans h1,World.cell?_setCell_same W _ _ h2,by simp [h3],by simp [h4],by simp [h5],by simpa using h6⟩
theorem Box2.set1K {W:World} {b:Nat} {x y:Value} (h:Box2 W b x y) (u:Value):Box2 (W.setCell ⟨b,1,none⟩ u) b x u:=by
 obtain ⟨h0,h1,h2,h3,h4⟩:=h;exact ⟨(World.cell?_setCell_other W _ _ _ (by simp)).trans h0,World.cell?_setCell_same W _ _ h1,by simp [h2],by simp [h3],by simpa using h4⟩
structure PkQ (es:List El):Prop where
 r:∀ e ∈ es,(0<=e.n/\e.n<16)/\e.ls.length<=65
 z:szP es<=256
theorem zhd {R:Nat} {a b c:World} (h:Only (fun k=>k=R) a b) (k:Only (fun k=>k=R\/b.heap.size<=k) b c):Only (fun k=>k=R) a c:=
 ⟨k.os.trans h.os,k.tape.trans h.tape,k.output.trans h.output,Nat.le_trans h.size k.size,fun i hi hs=>(k.block i (Nat.lt_of_lt_of_le hi h.size) (fun ht=>by have:=h.size;rcases ht with ht | ht;exact hs ht;omega)).trans (h.block i hi hs)⟩
structure PkL (w0 w W:World) (B R:Nat) (a:Option Addr) (bs:List Int) (cap X:Nat) (E O:Int) (v:Value) (es:List El):Prop where
 dr:Dr w0 W B R a bs cap
 only:Only (fun k=>k=R) w W
 res:Box3 W w.heap.size (.int .i64 0) (.int .i64 0) (.slice none 0 0)
 box:Box3 W X (.int .i64 E) (.int .i64 O) v
 own:PkD W (X+1) v es
 hX:w.heap.size<X
 hR:B<=R/\R<w.heap.size
section
variable {w0 w W W' : World} {B R : Nat} {a : Option Addr} {bs : List Int} {cap X : Nat} {E O : Int} {v : Value} {es : List El}
theorem PkL.cur (h:PkL w0 w W B R a bs cap X E O v es) (hd:Dr w0 W' B R a bs cap) (ho:Only (fun k=>k=R) W W'):PkL w0 w W' B R a bs cap X E O v es:=by
 have h1:=h.hX;have h2:=h.hR;exact ⟨hd,h.only.trans ho,h.res.onlyK ho (by omega),h.box.onlyK ho (by omega),h.own.stay ho (fun k hk _=>by omega),h1,h2⟩
theorem PkL.late (h:PkL w0 w W B R a bs cap X E O v es) (hb:Below W.heap.size W W'):PkL w0 w W' B R a bs cap X E O v es:=by
 have ho:Only (fun _=>False) W W':=Only.ofBelow hb nl
 exact ⟨h.dr.other ho (by simp) (by simp),h.only.trans (ho.mono (fun k _ hk=>hk.elim)),h.res.onlyK ho (by simp),h.box.onlyK ho (by simp),h.own.below hb,h.hX,h.hR⟩
theorem PkL.mix (h:PkL w0 w W B R a bs cap X E O v es) (hd:Dr w0 W' B R a bs cap) (ho:Only (fun k=>k=R\/W.heap.size<=k) W W'):PkL w0 w W' B R a bs cap X E O v es:=by
 have h1:=h.hX;have h2:=h.hR;have h3:=h.box.lt;have h4:=h.only.size;exact ⟨hd,zhd h.only ho,h.res.onlyK ho (by omega),h.box.onlyK ho (by omega),h.own.stay ho (fun k hk hk2=>by omega),h1,h2⟩
theorem PkL.put {v':Value} {es':List El} (h:PkL w0 w W B R a bs cap X E O v es) (ho':PkD W (X+1) v' es') :
  PkL w0 w (((W.setCell ⟨X,0,none⟩ (.int .i64 E)).setCell ⟨X,1,none⟩ (.int .i64 O)).setCell ⟨X,2,none⟩ v') B R a bs cap X E O v' es':=by
 have h1:=h.hX;have h2:=h.hR;have ho:Only (fun b=>b=X) W (((W.setCell ⟨X,0,none⟩ (.int .i64 E)).setCell ⟨X,1,none⟩ (.int .i64 O)).setCell ⟨X,2,none⟩ v'):=(((Only.refl (fun b=>b=X) W).setCell (p:=⟨X,0,none⟩) (.inl rfl) _).setCell (p:=⟨X,1,none⟩) (.inl rfl) _).setCell (p:=⟨X,2,none⟩) (.inl rfl) _
 refine ⟨h.dr.other ho (by omega) (fun k hk=>by omega),((h.only.setCell (p:=⟨X,0,none⟩) (.inr (by simp only;omega)) _).setCell (p:=⟨X,1,none⟩) (.inr (by simp only;omega)) _).setCell (p:=⟨X,2,none⟩) (.inr (by simp only;omega)) _,h.res.onlyK ho (by omega),?_,ho'.stay ho (fun k hk _=>by omega),h1,h2⟩
 exact ((h.box.set0K _).set1K _).set2K _
end
theorem zqf {es:List El} {q:El} (h:PkQ es) (hq:(0<=q.n/\q.n<16)/\q.ls.length<=65) (hz:szP (z2f es q)<=256):PkQ (z2f es q):=by
 refine ⟨fun e he=>?_,hz⟩
 unfold z2f at he;rcases List.mem_append.1 he with he | he
 ·exact h.r e (z8g e he)
 ·obtain rfl:e=q:=by simpa using he
  exact hq
theorem Dr.pack {w0 w:World} {B R:Nat} {a:Option Addr} {bs:List Int} {cap:Nat} (h:Dr w0 w B R a bs cap) :
  Calls Tryz.prog 38 #[.pointer (some ⟨R,0,none⟩)] w fun e w'=>∃ (E O:Int) (a':Option Addr) (c':Nat) (es:List El),e=.returned (.agg #[.int .i64 E,.int .i64 O,.slice a' es.length c'])/\(0<=E/\E<300)/\(0<=O/\O<300)/\es.length<=6/\PkQ es/\PkD w' w.heap.size (.slice a' es.length c') es/\Deep w' w.heap.size es/\Dr w0 w' B R a bs cap/\Only (fun k=>k=R) w w':=by
 have hRB:=h.cur.lt;have hoA:Only (fun _=>False) w (w.alloc (Obj.cells #[.int .i64 0,.int .i64 0,.slice none 0 0] 25)):=(Only.refl _ _).alloc _
 have HS0:Hid (Dr w0 (w.alloc (Obj.cells #[.int .i64 0,.int .i64 0,.slice none 0 0] 25)) B R a bs cap/\Only (fun k=>k=R) w (w.alloc (Obj.cells #[.int .i64 0,.int .i64 0,.slice none 0 0] 25))/\Box3 (w.alloc (Obj.cells #[.int .i64 0,.int .i64 0,.slice none 0 0] 25)) w.heap.size (.int .i64 0) (.int .i64 0) (.slice none 0 0)):=⟨h.other hoA (by simp) (by simp),hoA.mono (fun k _ hk=>hk.elim),Box3.new w _ _ _ _⟩
 clear h hoA
 go_enter Tryz.func38,Tryz.ntmps38
 go_wp2_with fail
 refine (HS0.out.1.belowBig 300 (by omega) (by omega)).mono ?_
 rintro e w1 ⟨⟨E,hE1,hE2,rfl⟩,hd1,ho1⟩;have HS1:Hid (Dr w0 w1 B R a bs cap/\Only (fun k=>k=R) w w1/\Box3 w1 w.heap.size (.int .i64 0) (.int .i64 0) (.slice none 0 0)):=⟨hd1,HS0.out.2.1.trans ho1,HS0.out.2.2.onlyK ho1 (by omega)⟩
 clear hd1 ho1 HS0;go_wp2_with fail
 refine (HS1.out.1.belowBig 300 (by omega) (by omega)).mono ?_
 rintro e w2 ⟨⟨O,hO1,hO2,rfl⟩,hd2,ho2⟩;have HS2:Hid (PkL w0 w (w2.alloc (Obj.cells #[.int .i64 E,.int .i64 O,.slice none 0 0] 25)) B R a bs cap w2.heap.size E O (.slice none 0 0) []):=by
  have hoB:Only (fun _=>False) w2 (w2.alloc (Obj.cells #[.int .i64 E,.int .i64 O,.slice none 0 0] 25)):=(Only.refl _ _).alloc _
  have hb2:Box3 w2 w.heap.size (.int .i64 0) (.int .i64 0) (.slice none 0 0):=HS1.out.2.2.onlyK ho2 (by omega)
  exact ⟨hd2.other hoB (by simp) (by simp),(HS1.out.2.1.trans ho2).alloc _,hb2.onlyK hoB (by simp),Box3.new w2 _ _ _ _,PkD.nil _ _,hb2.lt,hRB⟩
 clear hd2 ho2 HS1;have HQ0:Hid (PkQ []):=⟨by simp,by decide⟩
 go_wp2_with fail
 generalize w2.alloc (Obj.cells #[.int .i64 E,.int .i64 O,.slice none 0 0] 25)=w3 at *;generalize w2.heap.size=X at *;refine (HS2.out.dr.below 7 (by omega) (by omega)).mono ?_
 rintro e w4 ⟨⟨n,hn1,hn2,rfl⟩,hd4,ho4⟩;have HS4:Hid _:=HS2.out.cur hd4 ho4;clear hd4 ho4 HS2;go_wp2
 go_loopw [5] (fun iv wr=>∃ (k:Nat) (v:Value) (es:List El),(k:Int)<=n/\iv=.int .i64 k/\es.length<=k/\PkQ es/\PkL w0 w wr B R a bs cap X E O v es) (fun iv _=>7-(intOf iv).toNat)
 case atStart=>exact ⟨0,_,[],hn1,rfl,Nat.le_refl _,HQ0.out,HS4.out⟩
 case round=>
  clear HS4;obtain ⟨k,v,es,hk,rfl,hel,hq,hpl⟩:=hrel;have HPL:Hid (PkL w0 w wr B R a bs cap X E O v es/\PkQ es):=⟨hpl,hq⟩;obtain ⟨va,vc,rfl⟩:=hpl.own.row.form;have hXX:w.heap.size<X:=hpl.hX;clear hpl hq
  by_cases hlt:(k:Int)<n
  ·go_wp2_with fail
   refine (HPL.out.1.dr.below 16 (by omega) (by omega)).mono ?_
   rintro e w5 ⟨⟨x,hx1,hx2,rfl⟩,hd5,ho5⟩;have HS5:Hid (PkL w0 w w5 B R a bs cap X E O (.slice va es.length vc) es/\Dr w0 (w5.alloc (Obj.cells #[.int .i64 x,.slice none 0 0] 39)) B R a bs cap/\Only (fun k=>k=R\/w5.heap.size<=k) w5 (w5.alloc (Obj.cells #[.int .i64 x,.slice none 0 0] 39))/\Box2 (w5.alloc (Obj.cells #[.int .i64 x,.slice none 0 0] 39)) w5.heap.size (.int .i64 x) (.slice none 0 0)/\X<w5.heap.size/\PkQ es):=by
    have h1:=HPL.out.1.cur hd5 ho5;exact ⟨h1,hd5.other ((Only.refl (fun _=>False) _).alloc _) (by simp) (by simp),(Only.refl _ _).alloc _,Box2.new w5 _ _ _,h1.box.lt,HPL.out.2⟩
   clear hd5 ho5 HPL;have HRY:Hid (¬w5.heap.size=R):=by have h1:=HS5.out.1.hR;have h2:=HS5.out.2.2.2.2.1;intro e;omega
   go_wp2_with fail
   generalize w5.alloc (Obj.cells #[.int .i64 x,.slice none 0 0] 39)=w6 at *;generalize hY:w5.heap.size=Y at *;have HY:Hid (w5.heap.size=Y):=hY;clear hY;refine (HS5.out.2.1.once 5 (by omega) (by omega)).mono ?_
   rintro e w70 ⟨⟨b,rfl⟩,hd7,ho7⟩;have HS70:Hid (PkL w0 w w5 B R a bs cap X E O (.slice va es.length vc) es/\Dr w0 w70 B R a bs cap/\Only (fun k=>k=R\/Y<=k) w5 w70/\Box2 w70 Y (.int .i64 x) (.slice none 0 0)/\X<Y/\PkQ es):=⟨HS5.out.1,hd7,HS5.out.2.2.1.trans (ho7.mono (fun k _ hk=>.inl hk)),HS5.out.2.2.2.1.onlyK ho7 HRY.out,HS5.out.2.2.2.2⟩
   clear hd7 ho7 HS5;have HIT:Hid (∀ (W:World) (qa:Option Addr) (qc:Nat) (ql:List Int),PkL w0 w W B R a bs cap X E O (.slice va es.length vc) es->Mine W (X+1) W.heap.size qa qc ql->ql.length<=65 ->
     Calls Tryz.prog 65 #[.agg #[.int .i64 E,.int .i64 O,.slice va es.length vc],.agg #[.int .i64 x,.slice qa ql.length qc]] W fun e w'=>∃ (fa:Option Addr) (fc:Nat) (fs:List El),e=.returned (.agg #[.int .i64 E,.int .i64 O,.slice fa fs.length fc])/\fs.length<=es.length+1/\PkL w0 w w' B R a bs cap X E O (.slice va es.length vc) es/\PkD w' (X+1) (.slice fa fs.length fc) fs/\(szP fs<=256->PkQ fs)):=fun W qa qc ql hp hm hl=>by
    refine (zi9 E O va vc es x qa qc ql W hp.own.its.els (by omega)).mono ?_
    rintro e w' ⟨⟨v',rfl,hov⟩,hb⟩;have hd:=hp.own.add hb (q:=⟨x,qa,qc,ql⟩) hm ⟨⟨by simp only;omega,by simp only;omega,by unfold maxLen;simp only;omega,by simp⟩,by simp only;omega⟩ (by omega) (hov.weak hp.box.lt)
    obtain ⟨fa,fc,rfl⟩:=hov.form;have h2:=z7r x es;exact ⟨fa,fc,z2f es ⟨x,qa,qc,ql⟩,rfl,by unfold z2f;simp;omega,hp.late hb,hd,fun hz=>zqf HS70.out.2.2.2.2.2 ⟨⟨hx1,hx2⟩,hl⟩ hz⟩
   cases b with
   | true=>
    have HS7:Hid (PkL w0 w w70 B R a bs cap X E O (.slice va es.length vc) es/\Box2 w70 Y (.int .i64 x) (.slice none 0 0)/\Mine w70 (X+1) w70.heap.size none 0 []/\PkQ es):=⟨HS70.out.1.mix HS70.out.2.1 (by rw [HY.out];exact HS70.out.2.2.1),HS70.out.2.2.2.1,.inl ⟨rfl,rfl,rfl⟩,HS70.out.2.2.2.2.2⟩
    clear HS70;obtain ⟨b0,b1,b2,-,-,-,blt⟩:=HS7.out.1.box;obtain ⟨y0,y1,-,-,ylt⟩:=HS7.out.2.1;have HC:=HIT.out w70 none 0 [] HS7.out.1 HS7.out.2.2.1 (by simp)
    go_wp2_with fail
    refine HC.mono ?_;clear HC HIT;rintro e w8 ⟨fa,fc,fs,rfl,hfl,hp8,hd8,hq8⟩;have hSZ:=z5j E O fa fc fs _ (hd8.its.els.below ((Below.refl w8.heap.size w8).alloc nl (Obj.cells #[.int .i64 E,.int .i64 O,.slice fa fs.length fc] 25)) nl) hd8.few.n hd8.few.s;have HS8:Hid (PkL w0 w (w8.alloc (Obj.cells #[.int .i64 E,.int .i64 O,.slice fa fs.length fc] 25)) B R a bs cap X E O (.slice va es.length vc) es/\PkD (w8.alloc (Obj.cells #[.int .i64 E,.int .i64 O,.slice fa fs.length fc] 25)) (X+1) (.slice fa fs.length fc) fs/\Box3 (w8.alloc (Obj.cells #[.int .i64 E,.int .i64 O,.slice fa fs.length fc] 25)) w8.heap.size (.int .i64 E) (.int .i64 O) (.slice fa fs.length fc)/\(szP fs<=256->PkQ fs)/\PkQ es):=
     ⟨hp8.late ((Below.refl _ _).alloc nl _),hd8.below ((Below.refl _ _).alloc nl _),Box3.new w8 _ _ _ _,hq8,HS7.out.2.2.2⟩
    clear hp8 hd8 hq8 HS7 b0 b1 b2 blt y0 y1 ylt;go_wp2_with fail
    generalize w8.alloc (Obj.cells #[.int .i64 E,.int .i64 O,.slice fa fs.length fc] 25)=w9 at *;generalize w8.heap.size=Z at *;refine hSZ.mono ?_;clear hSZ;rintro e w10 ⟨rfl,hb10⟩;have HS10:Hid (PkL w0 w w10 B R a bs cap X E O (.slice va es.length vc) es/\PkD w10 (X+1) (.slice fa fs.length fc) fs/\Box3 w10 Z (.int .i64 E) (.int .i64 O) (.slice fa fs.length fc)/\(szP fs<=256->PkQ fs)/\PkQ es):=⟨HS8.out.1.late hb10,HS8.out.2.1.below hb10,HS8.out.2.2.1.step hb10,HS8.out.2.2.2⟩
    clear hb10 HS8;obtain ⟨b0,b1,b2,f0,f1,f2,blt⟩:=HS10.out.1.box;obtain ⟨z0,z1,z2,-,-,-,zlt⟩:=HS10.out.2.2.1
    by_cases hz:szP fs<=256
    ·have hzI:(szP fs:Int)<=256:=by omega
     have HF:Hid _:=HS10.out.1.put HS10.out.2.1;have HQ:Hid (PkQ fs):=HS10.out.2.2.2.1 hz;clear HS10;generalize szP fs=sz at *;go_wp2;go_roundw
     case rel=>exact ⟨k+1,_,fs,by omega,by go_num,by omega,HQ.out,HF.out⟩
     case measure=>simp [intOf];omega
    ·have hzI:¬(szP fs:Int)<=256:=by omega
     generalize szP fs=sz at *;go_wp2;go_roundw
     case rel=>exact ⟨k+1,_,es,by omega,by go_num,by omega,HS10.out.2.2.2.2,HS10.out.1⟩
     case measure=>simp [intOf];omega
   | false=>
    go_wp2_with fail
    refine HS70.out.2.1.block.mono ?_;rintro e w71 ⟨a1,c1,ls,rfl,hl64,hov,hd71,ho71⟩;have HS71:Hid (PkL w0 w w5 B R a bs cap X E O (.slice va es.length vc) es/\Dr w0 w71 B R a bs cap/\Only (fun k=>k=R\/Y<=k) w5 w71/\Box2 w71 Y (.int .i64 x) (.slice none 0 0)/\X<Y/\PkQ es):=⟨HS70.out.1,hd71,HS70.out.2.2.1.trans (ho71.mono (fun k _ hk=>.inl hk)),HS70.out.2.2.2.1.onlyK ho71 HRY.out,HS70.out.2.2.2.2⟩
    have HEN:=zdm a1 c1 ls w71 hov.byt hl64;have hel65:=z9w hl64 3;clear hov hd71 ho71 HS70;generalize enK ls 3=ql at *;go_wp2_with fail
    refine HEN.mono ?_;clear HEN;rintro e w72 ⟨⟨qa,qc,rfl,hm⟩,hb72⟩;have hY72:=HS71.out.2.2.2.1.keep hb72 HS71.out.2.2.2.1.lt;obtain ⟨y0,y1,yf0,yf1,ylt⟩:=id hY72;have HS7:Hid (PkL w0 w (w72.setCell ⟨Y,1,none⟩ (.slice qa ql.length qc)) B R a bs cap X E O (.slice va es.length vc) es/\Box2 (w72.setCell ⟨Y,1,none⟩ (.slice qa ql.length qc)) Y (.int .i64 x) (.slice qa ql.length qc)/\Mine (w72.setCell ⟨Y,1,none⟩ (.slice qa ql.length qc)) (X+1) (w72.setCell ⟨Y,1,none⟩ (.slice qa ql.length qc)).heap.size qa qc ql/\PkQ es):=by
     have hYb:=HS71.out.2.2.2.1.lt;have hXY:=HS71.out.2.2.2.2.1;have hs:=HS71.out.2.2.1.size;have ho:Only (fun b=>b=Y) w72 (w72.setCell ⟨Y,1,none⟩ (.slice qa ql.length qc)):=(Only.refl (fun b=>b=Y) w72).setCell (p:=⟨Y,1,none⟩) (.inl rfl) _
     have hh:=HRY.out;rw [HY.out] at hs;refine ⟨HS71.out.1.mix ((HS71.out.2.1.other (Only.ofBelow (S:=fun _=>False) hb72 nl) (by simp) (by simp)).other ho (fun e=>hh e.symm) (fun k hk=>by have:=HS71.out.1.hR;have:=HS71.out.1.hX;omega)) ?_,hY72.set1K _,?_,HS71.out.2.2.2.2.2⟩
     ·rw [HY.out]
      exact (HS71.out.2.2.1.trans (Only.ofBelow hb72 nl)).setCell (p:=⟨Y,1,none⟩) (.inl (.inr nl)) _
     ·exact (hm.stay ho (fun b hb e=>by have:=(hm.rowE hb).1;omega)).mono (by omega) ho.size
    have hXn:¬X=Y:=by have:=HS71.out.2.2.2.2.1;omega
    have hpl72:=HS71.out.1.mix (W':=w72) (HS71.out.2.1.other (Only.ofBelow (S:=fun _=>False) hb72 nl) (by simp) (by simp)) (by rw [HY.out];exact HS71.out.2.2.1.trans (Only.ofBelow hb72 nl))
    obtain ⟨b0,b1,b2,-,-,-,blt⟩:=hpl72.box;clear hm hb72 hY72 HS71 hpl72;have HC:=HIT.out (w72.setCell ⟨Y,1,none⟩ (.slice qa ql.length qc)) qa qc ql HS7.out.1 HS7.out.2.2.1 hel65;go_wp2_with fail
    refine HC.mono ?_;clear HC HIT;rintro e w8 ⟨fa,fc,fs,rfl,hfl,hp8,hd8,hq8⟩;have hSZ:=z5j E O fa fc fs _ (hd8.its.els.below ((Below.refl w8.heap.size w8).alloc nl (Obj.cells #[.int .i64 E,.int .i64 O,.slice fa fs.length fc] 25)) nl) hd8.few.n hd8.few.s;have HS8:Hid (PkL w0 w (w8.alloc (Obj.cells #[.int .i64 E,.int .i64 O,.slice fa fs.length fc] 25)) B R a bs cap X E O (.slice va es.length vc) es/\PkD (w8.alloc (Obj.cells #[.int .i64 E,.int .i64 O,.slice fa fs.length fc] 25)) (X+1) (.slice fa fs.length fc) fs/\Box3 (w8.alloc (Obj.cells #[.int .i64 E,.int .i64 O,.slice fa fs.length fc] 25)) w8.heap.size (.int .i64 E) (.int .i64 O) (.slice fa fs.length fc)/\(szP fs<=256->PkQ fs)/\PkQ es):=
     ⟨hp8.late ((Below.refl _ _).alloc nl _),hd8.below ((Below.refl _ _).alloc nl _),Box3.new w8 _ _ _ _,hq8,HS7.out.2.2.2⟩
    clear hp8 hd8 hq8 HS7 b0 b1 b2 blt y0 y1 ylt;go_wp2_with fail
    generalize w8.alloc (Obj.cells #[.int .i64 E,.int .i64 O,.slice fa fs.length fc] 25)=w9 at *;generalize w8.heap.size=Z at *;refine hSZ.mono ?_;clear hSZ;rintro e w10 ⟨rfl,hb10⟩;have HS10:Hid (PkL w0 w w10 B R a bs cap X E O (.slice va es.length vc) es/\PkD w10 (X+1) (.slice fa fs.length fc) fs/\Box3 w10 Z (.int .i64 E) (.int .i64 O) (.slice fa fs.length fc)/\(szP fs<=256->PkQ fs)/\PkQ es):=⟨HS8.out.1.late hb10,HS8.out.2.1.below hb10,HS8.out.2.2.1.step hb10,HS8.out.2.2.2⟩
    clear hb10 HS8;obtain ⟨b0,b1,b2,f0,f1,f2,blt⟩:=HS10.out.1.box;obtain ⟨z0,z1,z2,-,-,-,zlt⟩:=HS10.out.2.2.1
    by_cases hz:szP fs<=256
    ·have hzI:(szP fs:Int)<=256:=by omega
     have HF:Hid _:=HS10.out.1.put HS10.out.2.1;have HQ:Hid (PkQ fs):=HS10.out.2.2.2.1 hz;clear HS10;generalize szP fs=sz at *;go_wp2;go_roundw
     case rel=>exact ⟨k+1,_,fs,by omega,by go_num,by omega,HQ.out,HF.out⟩
     case measure=>simp [intOf];omega
    ·have hzI:¬(szP fs:Int)<=256:=by omega
     generalize szP fs=sz at *;go_wp2;go_roundw
     case rel=>exact ⟨k+1,_,es,by omega,by go_num,by omega,HS10.out.2.2.2.2,HS10.out.1⟩
     case measure=>simp [intOf];omega
  ·have HOW:=zid E O va vc es wr HPL.out.1.own.its.els (by omega) (fun s hs=>by have:=(HPL.out.1.own.rng s hs).2;omega)
   obtain ⟨b0,b1,b2,-,-,-,blt⟩:=HPL.out.1.box;go_wp2_with fail
   refine HOW.mono ?_;clear HOW;rintro e w8 ⟨⟨v8,ts,rfl,hcp⟩,hb8⟩;have HP8:Hid (PkL w0 w w8 B R a bs cap X E O (.slice va es.length vc) es):=HPL.out.1.late hb8;obtain ⟨ta,tc,rfl⟩:=hcp.row.form;obtain ⟨r0,r1,r2,rf0,rf1,rf2,rlt⟩:=HP8.out.res;have HF:Hid (∃ (es':List El),ts.length=es'.length/\es'.length<=6/\PkQ es'/\PkD (((w8.setCell ⟨w.heap.size,0,none⟩ (.int .i64 E)).setCell ⟨w.heap.size,1,none⟩ (.int .i64 O)).setCell ⟨w.heap.size,2,none⟩ (.slice ta ts.length tc)) w.heap.size (.slice ta ts.length tc) es'/\Deep (((w8.setCell ⟨w.heap.size,0,none⟩ (.int .i64 E)).setCell ⟨w.heap.size,1,none⟩ (.int .i64 O)).setCell ⟨w.heap.size,2,none⟩ (.slice ta ts.length tc)) w.heap.size es'/\Dr w0 (((w8.setCell ⟨w.heap.size,0,none⟩ (.int .i64 E)).setCell ⟨w.heap.size,1,none⟩ (.int .i64 O)).setCell ⟨w.heap.size,2,none⟩ (.slice ta ts.length tc)) B R a bs cap/\Only (fun k=>k=R) w (((w8.setCell ⟨w.heap.size,0,none⟩ (.int .i64 E)).setCell ⟨w.heap.size,1,none⟩ (.int .i64 O)).setCell ⟨w.heap.size,2,none⟩ (.slice ta ts.length tc))):=by
    have ho:Only (fun b=>b=w.heap.size) w8 (((w8.setCell ⟨w.heap.size,0,none⟩ (.int .i64 E)).setCell ⟨w.heap.size,1,none⟩ (.int .i64 O)).setCell ⟨w.heap.size,2,none⟩ (.slice ta ts.length tc)):=(((Only.refl (fun b=>b=w.heap.size) w8).setCell (p:=⟨w.heap.size,0,none⟩) (.inl rfl) _).setCell (p:=⟨w.heap.size,1,none⟩) (.inl rfl) _).setCell (p:=⟨w.heap.size,2,none⟩) (.inl rfl) _
    have hwr:w.heap.size<wr.heap.size:=HPL.out.1.res.lt;have hll:=zfu hcp.ct;have hz:szP ts=szP es:=by unfold szP;rw [zkm _ _ hcp.ct,hll]
    have hq:=HPL.out.2;have hmem:∀ e ∈ ts,∃ e' ∈ es,e.n=e'.n/\e.ls=e'.ls:=fun e he=>by
     have h1:e.ct ∈ es.map El.ct:=by rw [<-hcp.ct];exact List.mem_map_of_mem he
     obtain ⟨e',he',h2⟩:=List.mem_map.1 h1;exact ⟨e',he',(congrArg Prod.fst h2).symm,(congrArg Prod.snd h2).symm⟩
    have hc8:=hcp.stay ho (fun k hk e=>by omega)
    refine ⟨ts,rfl,by omega,⟨fun e he=>?_,by rw [hz];exact hq.z⟩,⟨hc8.row.weak (by omega),fun e he=>(hc8.deep.mine e he).mono (by omega) nl,fun e he=>?_,by omega⟩,hc8.deep.weak (by omega),HP8.out.dr.other ho (by have:=HP8.out.hR;omega) (fun k hk=>by have:=HP8.out.hR;omega),((HP8.out.only.setCell (p:=⟨w.heap.size,0,none⟩) (.inr nl) _).setCell (p:=⟨w.heap.size,1,none⟩) (.inr nl) _).setCell (p:=⟨w.heap.size,2,none⟩) (.inr nl) _⟩
    ·obtain ⟨e',he',h1,h2⟩:=hmem e he
     rw [h1,h2];exact hq.r e' he'
    ·obtain ⟨e',he',h1,h2⟩:=hmem e he
     exact ⟨hc8.rng e he,by rw [h2];exact (HPL.out.1.own.rng e' he').2⟩
   clear hcp hb8 HPL HP8 b0 b1 b2 blt;go_wp2;obtain ⟨es',e1,e2,e3,e4,e5,e6,e7⟩:=HF.out;exact bodyPost_ret (v:=.agg #[.int .i64 E,.int .i64 O,.slice ta ts.length tc]) (by simp [results,Tryz.results38,go_sem,r0,r1,r2]) rfl ⟨E,O,ta,tc,es',by rw [e1],⟨hE1,hE2⟩,⟨hO1,hO2⟩,e2,e3,by rw [<-e1];exact e4,e5,e6,e7⟩
theorem z55 (W:World) (T:TypeId) (zs:List Int) (hr:∀ z ∈ zs,-9223372036854775808<=z/\z<=9223372036854775807):Ins (W.alloc (.cells (zs.map (Value.int .i64)).toArray T)) (some ⟨W.heap.size,0,none⟩) zs:=by
 refine ⟨hr,fun hp=>⟨W.heap.size,0,rfl,by simp,fun i hi=>?_⟩⟩
 rw [Nat.zero_add,cell_of_row _ W.heap.size i _ T (0,0) (heap_alloc_new W _)]
 simp [hi]
theorem z2y {o:Oper} {a:Act} {w:World} {K:Act->World->Prop} {Q:Exit->Act->World->Prop} (s x:Operand) (ho:o.op=.call { callee:=.builtin .append,args:=#[s,x],argTypes:=#[23,23] })
  (B:Nat) (v:Value) (es:List El) (hs:a.eval s=v) (hown:OVt w B v es) (X c:Nat) (e:El) (hx:a.eval x=.slice (some ⟨X,0,none⟩) 1 c) (hX:∀ j u,(e.cells true)[j]?=some u->w.cell? ⟨X,j,none⟩=some u) (hb1:es.length<=1000000) (hbase:B<=w.heap.size)
  (h:∀ v' w',OVt w' B v' (es++[e])->w.grownBy w' v.ownBlock->(v'.ownBlock=v.ownBlock\/v'.ownBlock=some w.heap.size)->K (a.put o.dst v') w'):o.wp Tryz.prog a w K Q:=by
 obtain ⟨i0,hi,hz0,hz1,hz2⟩:=info_parts Tryz.infoItem;obtain ⟨v',w',hr,h2,h3,_,h5⟩:=run_append_own_at (P:=Tryz.prog) w B 23 o.type 39 i0 _ (eW true) 32 Tryz.underlying23 hi hz0 hz1 hz2 rfl (by simp [eW]) v es.length _ hown.own ⟨X,0,none⟩ 1 c (e.cells true) (by rw [z2c,Nat.one_mul]) (fun j u hu=>by rw [z4u,Nat.zero_add];exact hX j u hu) (by
  intro u hu
  simp [El.cells] at hu
  rcases hu with rfl | rfl <;> rfl) (by unfold maxLen;omega) (by omega) hbase
 unfold Oper.wp execOp
 simp only [ho,resolve,invoke,builtin,Sem.run_bind,Sem.run_pure,Result.andThen_ok,List.map_toArray,List.map_cons,List.map_nil,hs,hx,hr]
 refine h v' w' ⟨?_⟩ h3 h5;rw [List.length_append,List.flatMap_append]
 simpa using h2
theorem z7b {ops:Array Oper} {rest:List Oper} {o:Oper} {a:Act} {Q:Exit->Act->World->Prop} {w:World} (hgd:o.guard=none) (s x:Operand) (ho:o.op=.call { callee:=.builtin .append,args:=#[s,x],argTypes:=#[23,23] })
  (B:Nat) (v:Value) (es:List El) (hs:a.eval s=v) (hown:OVt w B v es) (X c:Nat) (e:El) (hx:a.eval x=.slice (some ⟨X,0,none⟩) 1 c) (hX:∀ j u,(e.cells true)[j]?=some u->w.cell? ⟨X,j,none⟩=some u) (hb1:es.length<=1000000) (hbase:B<=w.heap.size)
  (h:∀ v' w',OVt w' B v' (es++[e])->w.grownBy w' v.ownBlock->(v'.ownBlock=v.ownBlock\/v'.ownBlock=some w.heap.size)->wpList Tryz.prog ops Q rest (a.put o.dst v') w'):wpList Tryz.prog ops Q (o :: rest) a w:=by
 refine wpList_plain hgd fun K hK'=>?_
 exact z2y s x ho B v es hs hown X c e hx hX hb1 hbase (fun v' w' h1 h2 h3=>hK' _ _ (h v' w' h1 h2 h3))
structure PkN (w0 w W:World) (B R:Nat) (a:Option Addr) (bs:List Int) (cap X:Nat) (E O:Int) (v:Value) (es:List El):Prop where
 dr:Dr w0 W B R a bs cap
 only:Only (fun k=>k=R) w W
 res:Box3 W w.heap.size (.int .i64 0) (.int .i64 0) (.slice none 0 0)
 box:Box3 W X (.int .i64 E) (.int .i64 O) v
 own:PkD W (w.heap.size+1) v es
 ap:∀ k,v.ownBlock=some k->k≠X
 apl:∀ e ∈ es,∀ k,z06 e.a k->k≠X
 hX:w.heap.size<X
 hR:B<=R/\R<w.heap.size
 rE:-1<=E/\E<=60001
 rO:-1<=O/\O<=60001
section
variable {w0 w W W' : World} {B R : Nat} {a : Option Addr} {bs : List Int} {cap X : Nat} {E O : Int} {v : Value} {es : List El}
theorem PkN.cur (h:PkN w0 w W B R a bs cap X E O v es) (hd:Dr w0 W' B R a bs cap) (ho:Only (fun k=>k=R) W W'):PkN w0 w W' B R a bs cap X E O v es:=by
 have h1:=h.hX;have h2:=h.hR;exact ⟨hd,h.only.trans ho,h.res.onlyK ho (by omega),h.box.onlyK ho (by omega),h.own.stay ho (fun k hk _=>by omega),h.ap,h.apl,h1,h2,h.rE,h.rO⟩
theorem PkN.late (h:PkN w0 w W B R a bs cap X E O v es) (hb:Below W.heap.size W W'):PkN w0 w W' B R a bs cap X E O v es:=by
 have ho:Only (fun _=>False) W W':=Only.ofBelow hb nl
 exact ⟨h.dr.other ho (by simp) (by simp),h.only.trans (ho.mono (fun k _ hk=>hk.elim)),h.res.onlyK ho (by simp),h.box.onlyK ho (by simp),h.own.below hb,h.ap,h.apl,h.hX,h.hR,h.rE,h.rO⟩
theorem PkN.al (h:PkN w0 w W B R a bs cap X E O v es) (o:Obj):PkN w0 w (W.alloc o) B R a bs cap X E O v es:=h.late ((Below.refl _ _).alloc nl _)
theorem PkN.dw (h:PkN w0 w W B R a bs cap X E O v es):PkN w0 w W.drew B R a bs cap X E O v es:=h.late (Below.refl _ _).drew
theorem PkD.apart {W W':World} {B':Nat} (h:PkD W B' v es) (ho:Only (fun k=>k=X) W W') (h1:∀ k,v.ownBlock=some k->k≠X) (h2:∀ e ∈ es,∀ k,z06 e.a k->k≠X):PkD W' B' v es:=
 ⟨h.row.stay ho (fun k hk=>h1 k hk),fun e he=>((h.lets e he).stay ho (fun k hk=>h2 e he k hk)).mono nl ho.size,h.rng,h.n⟩
theorem PkN.setE (h:PkN w0 w W B R a bs cap X E O v es) (z:Int) (hz:-1<=z/\z<=60001):PkN w0 w (W.setCell ⟨X,0,none⟩ (.int .i64 z)) B R a bs cap X z O v es:=by
 have h1:=h.hX;have h2:=h.hR;have ho:Only (fun b=>b=X) W (W.setCell ⟨X,0,none⟩ (.int .i64 z)):=(Only.refl (fun b=>b=X) W).setCell (p:=⟨X,0,none⟩) (.inl rfl) _
 exact ⟨h.dr.other ho (by omega) (fun k hk=>by omega),h.only.setCell (p:=⟨X,0,none⟩) (.inr (by simp only;omega)) _,h.res.onlyK ho (by omega),h.box.set0K _,PkD.apart h.own ho h.ap h.apl,h.ap,h.apl,h1,h2,hz,h.rO⟩
theorem PkN.setO (h:PkN w0 w W B R a bs cap X E O v es) (z:Int) (hz:-1<=z/\z<=60001):PkN w0 w (W.setCell ⟨X,1,none⟩ (.int .i64 z)) B R a bs cap X E z v es:=by
 have h1:=h.hX;have h2:=h.hR;have ho:Only (fun b=>b=X) W (W.setCell ⟨X,1,none⟩ (.int .i64 z)):=(Only.refl (fun b=>b=X) W).setCell (p:=⟨X,1,none⟩) (.inl rfl) _
 exact ⟨h.dr.other ho (by omega) (fun k hk=>by omega),h.only.setCell (p:=⟨X,1,none⟩) (.inr (by simp only;omega)) _,h.res.onlyK ho (by omega),h.box.set1K _,PkD.apart h.own ho h.ap h.apl,h.ap,h.apl,h1,h2,h.rE,hz⟩
theorem PkN.more {W3:World} {v':Value} {e:El} (h:PkN w0 w W B R a bs cap X E O v es) (hm:Mine W (w.heap.size+1) W.heap.size e.a e.c e.ls) (hx:∀ k,z06 e.a k->k≠X) (hr:Go.Proofs.YtjmcjbmjgpponaaGreatDoor.rE true e/\e.ls.length<=601) (hn:es.length<=39)
  (hov:OVt W3 (w.heap.size+1) v' (es++[e])) (hg:W.grownBy W3 v.ownBlock) (hat:v'.ownBlock=v.ownBlock\/v'.ownBlock=some W.heap.size) :
  Box3 W3 X (.int .i64 E) (.int .i64 O) v/\Box3 W3 w.heap.size (.int .i64 0) (.int .i64 0) (.slice none 0 0)/\PkN w0 w (W3.setCell ⟨X,2,none⟩ v') B R a bs cap X E O v' (es++[e]):=by
 have h1:=h.hX;have h2:=h.hR;have h3:=h.box.lt;have hbl:∀ k,v.ownBlock=some k->w.heap.size+1<=k:=fun k hk=>(h.own.row.blk hk).1
 have ho1:Only (fun k=>v.ownBlock=some k) W W3:=Only.ofGrownT hg
 have hbx:=h.box.onlyK ho1 (fun e=>h.ap X e rfl)
 have ho:Only (fun b=>b=X) W3 (W3.setCell ⟨X,2,none⟩ v'):=(Only.refl (fun b=>b=X) W3).setCell (p:=⟨X,2,none⟩) (.inl rfl) _
 have hap':∀ k,v'.ownBlock=some k->k≠X:=fun k hk=>by
  rcases hat with e1 | e1
  ·exact h.ap k (e1 ▸ hk)
  ·rw [e1] at hk
   have:W.heap.size=k:=by simpa using hk
   omega
 have hapl':∀ x ∈ es++[e],∀ k,z06 x.a k->k≠X:=fun x hx' k hk=>by
  rcases List.mem_append.1 hx' with h9 | h9
  ·exact h.apl x h9 k hk
  ·obtain rfl:x=e:=by simpa using h9
   exact hx k hk
 have hd3:PkD W3 (w.heap.size+1) v' (es++[e]):=by
  refine ⟨hov,fun x hx'=>?_,fun x hx'=>?_,by simp;omega⟩
  ·have hmx:Mine W (w.heap.size+1) W.heap.size x.a x.c x.ls:=by
    rcases List.mem_append.1 hx' with h9 | h9
    ·exact h.own.lets x h9
    ·obtain rfl:x=e:=by simpa using h9
     exact hm
   exact (hmx.stay ho1 (fun b hb e9=>h.own.row.other hmx e9 hb)).mono nl ho1.size
  ·rcases List.mem_append.1 hx' with h9 | h9
   ·exact h.own.rng x h9
   ·obtain rfl:x=e:=by simpa using h9
    exact hr
 refine ⟨hbx,h.res.onlyK ho1 (fun e9=>by have:=hbl _ e9;omega),(h.dr.other ho1 (fun e9=>by have:=hbl _ e9;omega) (fun k hk=>by have:=hbl k hk;omega)).other ho (by omega) (fun k hk=>by omega),(zgg h.only ho1 (fun i hi=>by have:=hbl i hi;omega)).setCell (p:=⟨X,2,none⟩) (.inr (by simp only;omega)) _,(h.res.onlyK ho1 (fun e9=>by have:=hbl _ e9;omega)).onlyK ho (by omega),hbx.set2K _,PkD.apart hd3 ho hap' hapl',hap',hapl',h1,h2,h.rE,h.rO⟩
theorem PkN.fin (h:PkN w0 w W B R a bs cap X E O v es):∃ va vc,v=.slice va es.length vc/\PkD (((W.setCell ⟨w.heap.size,0,none⟩ (.int .i64 E)).setCell ⟨w.heap.size,1,none⟩ (.int .i64 O)).setCell ⟨w.heap.size,2,none⟩ v) w.heap.size v es/\Dr w0 (((W.setCell ⟨w.heap.size,0,none⟩ (.int .i64 E)).setCell ⟨w.heap.size,1,none⟩ (.int .i64 O)).setCell ⟨w.heap.size,2,none⟩ v) B R a bs cap/\Only (fun k=>k=R) w (((W.setCell ⟨w.heap.size,0,none⟩ (.int .i64 E)).setCell ⟨w.heap.size,1,none⟩ (.int .i64 O)).setCell ⟨w.heap.size,2,none⟩ v):=by
 obtain ⟨va,vc,hv⟩:=h.own.row.form;have h2:=h.hR;have ho:Only (fun b=>b=w.heap.size) W (((W.setCell ⟨w.heap.size,0,none⟩ (.int .i64 E)).setCell ⟨w.heap.size,1,none⟩ (.int .i64 O)).setCell ⟨w.heap.size,2,none⟩ v):=(((Only.refl (fun b=>b=w.heap.size) W).setCell (p:=⟨w.heap.size,0,none⟩) (.inl rfl) _).setCell (p:=⟨w.heap.size,1,none⟩) (.inl rfl) _).setCell (p:=⟨w.heap.size,2,none⟩) (.inl rfl) _
 exact ⟨va,vc,hv,(h.own.stay ho (fun k hk _=>by omega)).weak (by omega),h.dr.other ho (by omega) (fun k hk=>by omega),((h.only.setCell (p:=⟨w.heap.size,0,none⟩) (.inr nl) _).setCell (p:=⟨w.heap.size,1,none⟩) (.inr nl) _).setCell (p:=⟨w.heap.size,2,none⟩) (.inr nl) _⟩
end
theorem zig (w:World) (B:Nat) (hB:B<=w.heap.size):Mine (w.alloc (.cells #[.int .u8 9,.int .u8 9] 5)) B (w.alloc (.cells #[.int .u8 9,.int .u8 9] 5)).heap.size (some ⟨w.heap.size,0,none⟩) 2 [9,9]:=by
 have ho:OVB (w.alloc (.cells #[.int .u8 9,.int .u8 9] 5)) B (.slice (some ⟨w.heap.size,0,none⟩) 2 2) [9,9]:=
  ⟨⟨rfl,.inr ⟨w.heap.size,2,#[.int .u8 9,.int .u8 9],rfl,hB,heap_alloc_new w _,by simp,by unfold maxLen;omega,rfl,rfl⟩⟩,by intro y hy;simp at hy;omega⟩
 obtain ⟨a',c',e,hm⟩:=ho.mine;obtain ⟨rfl,rfl⟩:some ⟨w.heap.size,0,none⟩=a'/\2=c':=by simpa using e
 exact hm
theorem Dr.bentPk {w0 w:World} {B R:Nat} {a:Option Addr} {bs:List Int} {cap:Nat} (h:Dr w0 w B R a bs cap) :
  Calls Tryz.prog 26 #[.pointer (some ⟨R,0,none⟩)] w fun e w'=>∃ (E O:Int) (a':Option Addr) (c':Nat) (es:List El),e=.returned (.agg #[.int .i64 E,.int .i64 O,.slice a' es.length c'])/\(-1<=E/\E<=60001)/\(-1<=O/\O<=60001)/\PkD w' w.heap.size (.slice a' es.length c') es/\Dr w0 w' B R a bs cap/\Only (fun k=>k=R) w w':=by
 have hRB:=h.cur.lt;have hoA:Only (fun _=>False) w (w.alloc (Obj.cells #[.int .i64 0,.int .i64 0,.slice none 0 0] 25)):=(Only.refl _ _).alloc _
 have HS0:Hid (Dr w0 (w.alloc (Obj.cells #[.int .i64 0,.int .i64 0,.slice none 0 0] 25)) B R a bs cap/\Only (fun k=>k=R) w (w.alloc (Obj.cells #[.int .i64 0,.int .i64 0,.slice none 0 0] 25))/\Box3 (w.alloc (Obj.cells #[.int .i64 0,.int .i64 0,.slice none 0 0] 25)) w.heap.size (.int .i64 0) (.int .i64 0) (.slice none 0 0)):=⟨h.other hoA (by simp) (by simp),hoA.mono (fun k _ hk=>hk.elim),Box3.new w _ _ _ _⟩
 clear h hoA
 go_enter Tryz.func26,Tryz.ntmps26
 go_wp2_with fail
 refine HS0.out.1.pack.mono ?_;rintro e w1 ⟨E,O,a1,c1,es,rfl,hE,hO,hn6,hq,hpd,hdp,hd1,ho1⟩;have HS2:Hid (PkN w0 w (w1.alloc (Obj.cells #[.int .i64 E,.int .i64 O,.slice a1 es.length c1] 25)) B R a bs cap w1.heap.size E O (.slice a1 es.length c1) es):=by
  have hoB:Only (fun _=>False) w1 (w1.alloc (Obj.cells #[.int .i64 E,.int .i64 O,.slice a1 es.length c1] 25)):=(Only.refl _ _).alloc _
  have hb2:Box3 w1 w.heap.size (.int .i64 0) (.int .i64 0) (.slice none 0 0):=HS0.out.2.2.onlyK ho1 (by omega)
  have hw:(w.alloc (Obj.cells #[.int .i64 0,.int .i64 0,.slice none 0 0] 25)).heap.size=w.heap.size+1:=by simp
  rw [hw] at hpd;exact ⟨hd1.other hoB (by simp) (by simp),(HS0.out.2.1.trans ho1).alloc _,hb2.onlyK hoB (by simp),Box3.new w1 _ _ _ _,hpd.stay hoB (by simp),fun k hk e=>by have:=(hpd.row.blk hk).2;omega,fun x hx k hk e=>by have:=((hpd.lets x hx).rowE hk).2;omega,hb2.lt,hRB,by omega,by omega⟩
 clear hd1 ho1 hpd hdp hq HS0;go_wp2_with fail
 generalize w1.alloc (Obj.cells #[.int .i64 E,.int .i64 O,.slice a1 es.length c1] 25)=w2 at *;generalize w1.heap.size=X at *;refine (HS2.out.dr.once 8 (by omega) (by omega)).mono ?_
 rintro e w3 ⟨⟨bb,rfl⟩,hd3,ho3⟩;have HN:Hid (PkN w0 w w3 B R a bs cap X E O (.slice a1 es.length c1) es):=HS2.out.cur hd3 ho3;clear hd3 ho3 HS2
 cases bb with
 | false=>
  obtain ⟨b0,b1,b2,g0,g1,g2,glt⟩:=HN.out.box;obtain ⟨r0,r1,r2,rf0,rf1,rf2,rlt⟩:=HN.out.res;have hXn:¬X=w.heap.size:=by have:=HN.out.hX;omega
  have hNE:=HN.out.rE;have hNO:=HN.out.rO;obtain ⟨va,vc,ev,hF⟩:=HN.out.fin;obtain ⟨rfl,rfl⟩:a1=va/\c1=vc:=by simpa using ev
  have HF:Hid _:=hF;clear hF ev HN;go_wp2;exact bodyPost_ret (v:=.agg #[.int .i64 E,.int .i64 O,.slice a1 es.length c1]) (by simp [results,Tryz.results26,go_sem,r0,r1,r2,hXn]) rfl ⟨E,O,a1,c1,es,rfl,hNE,hNO,HF.out.1,HF.out.2.1,HF.out.2.2⟩
 | true=>
  go_wp2_with fail
  refine (HN.out.dr.below 5 (by omega) (by omega)).mono ?_
  rintro e w4 ⟨⟨kk,hk1,hk2,rfl⟩,hd4,ho4⟩;have HM:Hid (PkN w0 w w4 B R a bs cap X E O (.slice a1 es.length c1) es):=HN.out.cur hd4 ho4;clear hd4 ho4 HN;have key:kk=0\/kk=1\/kk=2\/kk=3\/kk=4:=by omega
  clear hk1 hk2;have hXw:X<w4.heap.size:=HM.out.box.lt;have hwX:w.heap.size<X:=HM.out.hX;have hRw:R<w.heap.size:=hRB.2;rcases key with rfl | rfl | rfl | rfl | rfl
  ·have HIN:Hid (∀ T,Ins (w4.alloc (.cells #[.int .i64 (-1),.int .i64 60000,.int .i64 60001] T)) (some ⟨w4.heap.size,0,none⟩) [-1,60000,60001]):=fun T=>by
    have:=z55 w4 T [-1,60000,60001] (by intro z hz;simp at hz;omega)
    simpa using this
   have HMA:Hid (PkN w0 w (w4.alloc (.cells #[.int .i64 (-1),.int .i64 60000,.int .i64 60001] 3)) B R a bs cap X E O (.slice a1 es.length c1) es):=HM.out.al _;go_wp2_with fail
   refine (HMA.out.dr.pick w4.heap.size 3 [-1,60000,60001] (HIN.out _) (by omega) (by simp) (by simp)).mono ?_
   rintro e w5 ⟨⟨z,hz,rfl⟩,hd5,ho5⟩;have HN5:=HMA.out.cur hd5 ho5;obtain ⟨b0,b1,b2,g0,g1,g2,glt⟩:=HN5.box;have hz2:-1<=z/\z<=60001:=by simp at hz;omega
   have HN:Hid (PkN w0 w (w5.setCell ⟨X,0,none⟩ (.int .i64 z)) B R a bs cap X z O (.slice a1 es.length c1) es):=HN5.setE z hz2;obtain ⟨r0,r1,r2,rf0,rf1,rf2,rlt⟩:=HN5.res;clear HN5 hd5 ho5 HMA HIN HM hz hz2;have hXn:¬X=w.heap.size:=by have:=HN.out.hX;omega
   have hNE:=HN.out.rE;have hNO:=HN.out.rO;obtain ⟨va,vc,ev,hF⟩:=HN.out.fin;obtain ⟨rfl,rfl⟩:a1=va/\c1=vc:=by simpa using ev
   have HF:Hid _:=hF;clear hF ev HN;go_wp2;exact bodyPost_ret (v:=.agg #[.int .i64 z,.int .i64 O,.slice a1 es.length c1]) (by simp [results,Tryz.results26,go_sem,r0,r1,r2,hXn]) rfl ⟨z,O,a1,c1,es,rfl,hNE,hNO,HF.out.1,HF.out.2.1,HF.out.2.2⟩
  ·have HIN:Hid (∀ T,Ins (w4.alloc (.cells #[.int .i64 (-1),.int .i64 60000,.int .i64 60001] T)) (some ⟨w4.heap.size,0,none⟩) [-1,60000,60001]):=fun T=>by
    have:=z55 w4 T [-1,60000,60001] (by intro z hz;simp at hz;omega)
    simpa using this
   have HMA:Hid (PkN w0 w (w4.alloc (.cells #[.int .i64 (-1),.int .i64 60000,.int .i64 60001] 3)) B R a bs cap X E O (.slice a1 es.length c1) es):=HM.out.al _;go_wp2_with fail
   refine (HMA.out.dr.pick w4.heap.size 3 [-1,60000,60001] (HIN.out _) (by omega) (by simp) (by simp)).mono ?_
   rintro e w5 ⟨⟨z,hz,rfl⟩,hd5,ho5⟩;have HN5:=HMA.out.cur hd5 ho5;obtain ⟨b0,b1,b2,g0,g1,g2,glt⟩:=HN5.box;have hz2:-1<=z/\z<=60001:=by simp at hz;omega
   have HN:Hid (PkN w0 w (w5.setCell ⟨X,1,none⟩ (.int .i64 z)) B R a bs cap X E z (.slice a1 es.length c1) es):=HN5.setO z hz2;obtain ⟨r0,r1,r2,rf0,rf1,rf2,rlt⟩:=HN5.res;clear HN5 hd5 ho5 HMA HIN HM hz hz2;have hXn:¬X=w.heap.size:=by have:=HN.out.hX;omega
   have hNE:=HN.out.rE;have hNO:=HN.out.rO;obtain ⟨va,vc,ev,hF⟩:=HN.out.fin;obtain ⟨rfl,rfl⟩:a1=va/\c1=vc:=by simpa using ev
   have HF:Hid _:=hF;clear hF ev HN;go_wp2;exact bodyPost_ret (v:=.agg #[.int .i64 E,.int .i64 z,.slice a1 es.length c1]) (by simp [results,Tryz.results26,go_sem,r0,r1,r2,hXn]) rfl ⟨E,z,a1,c1,es,rfl,hNE,hNO,HF.out.1,HF.out.2.1,HF.out.2.2⟩
  ·have HIN:Hid (∀ T,Ins (w4.drew.alloc (.cells #[.int .i64 (-1),.int .i64 0,.int .i64 15,.int .i64 16] T)) (some ⟨w4.heap.size,0,none⟩) [-1,0,15,16]):=fun T=>by
    have:=z55 w4.drew T [-1,0,15,16] (by intro z hz;simp at hz;omega)
    simpa using this
   have HMD:Hid (PkN w0 w w4.drew B R a bs cap X E O (.slice a1 es.length c1) es):=HM.out.dw;clear HM;go_wp2;refine zj (S:=fun W=>W.cell? ⟨X,2,none⟩=some (.slice a1 es.length c1)) 9 (by kernel_rfl) (by kernel_rfl) (by exact HMD.out.box.c2) (fun hHeld=>?_)
   refine tk 0 ?_
   try simp only [tkS]
   refine tk 1 ?_
   try simp only [tkS]
   refine tk 2 ?_
   try simp only [tkS]
   refine wpAnyH_ready (rs:=[3]) (by kernel_rfl) (by simp) ?_
   refine AllReadyH.cons rfl (fun K hK=>?_) AllReadyH.nil
   go_simp
   have HMA:Hid (PkN w0 w (w4.drew.alloc (.cells #[.int .i64 (-1),.int .i64 0,.int .i64 15,.int .i64 16] 3)) B R a bs cap X E O (.slice a1 es.length c1) es):=HMD.out.al _;refine hK.out _ _ (by exact HMA.out.box.c2) (fun hHeld=>?_)
   clear hK K
   try simp only [tkS]
   refine wpAnyH_ready (rs:=[4]) (by kernel_rfl) (by simp) ?_
   refine AllReadyH.cons rfl (fun K hK=>?_) AllReadyH.nil
   go_simp
   refine (HMA.out.dr.pick w4.heap.size 4 [-1,0,15,16] (by exact HIN.out _) (by omega) (by simp) (by simp)).mono ?_
   rintro e w5 ⟨⟨z,hz,rfl⟩,hd5,ho5⟩;have HM5:Hid (PkN w0 w w5 B R a bs cap X E O (.slice a1 es.length c1) es):=HMA.out.cur hd5 ho5;have hz2:-1<=z/\z<=16:=by simp at hz;omega
   clear hd5 ho5 HMA HMD HIN hz
   dsimp only
   refine hK.out _ _ (by exact HM5.out.box.c2) (fun hHeld=>?_)
   clear hK K
   try simp only [tkS]
   refine tk 5 ?_
   try simp only [tkS]
   refine wpAnyH_ready (rs:=[6]) (by kernel_rfl) (by simp) ?_
   refine AllReadyH.cons rfl (fun K hK=>?_) AllReadyH.nil
   go_simp
   have HM6:Hid (PkN w0 w (w5.alloc (.cells #[.int .i64 z,.slice none 0 0] 39)) B R a bs cap X E O (.slice a1 es.length c1) es):=HM5.out.al _;refine hK.out _ _ (by exact HM6.out.box.c2) (fun hHeld=>?_)
   clear hK K
   try simp only [tkS]
   refine wpAnyH_ready (rs:=[7]) (by kernel_rfl) (by simp) ?_
   refine AllReadyH.cons rfl (fun K hK=>?_) AllReadyH.nil
   refine z1e rfl (z2y (.tmp 41) (.tmp 46) rfl (w.heap.size+1) (.slice a1 es.length c1) es (by simp [Act.eval]) HM6.out.own.row w5.heap.size 1 ⟨z,none,0,[]⟩ (by simp [Act.eval]) (z6y w5 z none 0 0 39 ⟨z,none,0,[]⟩ rfl rfl rfl rfl) (by omega) (by have:=HM6.out.box.lt;omega) ?_)
   intro v7 w7 hov7 hg7 hat7
   obtain ⟨a7,c7,rfl⟩:=hov7.form;obtain ⟨hbx7,hrs7,hN7⟩:=HM6.out.more (e:=⟨z,none,0,[]⟩) (.inl ⟨rfl,rfl,rfl⟩) (by rintro k ⟨x,hx,_⟩;cases hx) ⟨⟨by simp only;omega,by simp only;omega,by simp,by simp⟩,by simp⟩ (by omega) hov7 hg7 hat7
   have HN:Hid _:=hN7;obtain ⟨b0,b1,b2,g0,g1,g2,glt⟩:=hbx7;obtain ⟨r0,r1,r2,rf0,rf1,rf2,rlt⟩:=hrs7;clear hN7 hov7 hg7 hat7 HM6 HM5;refine hK.out _ _ (by exact b2) (fun hHeld=>?_)
   clear hK K
   try simp only [tkS]
   refine tk 8 ?_
   try simp only [tkS]
   refine wpAnyH_done (by kernel_rfl) ?_ _
   simp only [z0d,List.drop_succ_cons,List.drop_zero]
   generalize (es++[(⟨z,none,0,[]⟩:El)])=fs at *;have hXn:¬X=w.heap.size:=by have:=HN.out.hX;omega
   have hNE:=HN.out.rE;have hNO:=HN.out.rO;obtain ⟨va,vc,ev,hF⟩:=HN.out.fin;obtain ⟨rfl,rfl⟩:a7=va/\c7=vc:=by simpa using ev
   have HF:Hid _:=hF;clear hF ev HN;go_wp2;exact bodyPost_ret (v:=.agg #[.int .i64 E,.int .i64 O,.slice a7 fs.length c7]) (by simp [results,Tryz.results26,go_sem,r0,r1,r2,hXn]) rfl ⟨E,O,a7,c7,fs,rfl,hNE,hNO,HF.out.1,HF.out.2.1,HF.out.2.2⟩
  ·have HM5:Hid (PkN w0 w (w4.alloc (.cells #[.int .u8 9,.int .u8 9] 5)) B R a bs cap X E O (.slice a1 es.length c1) es/\Mine (w4.alloc (.cells #[.int .u8 9,.int .u8 9] 5)) w4.heap.size (w4.alloc (.cells #[.int .u8 9,.int .u8 9] 5)).heap.size (some ⟨w4.heap.size,0,none⟩) 2 [9,9]):=⟨HM.out.al _,zig w4 _ nl⟩
   have HM6:Hid (PkN w0 w ((w4.alloc (.cells #[.int .u8 9,.int .u8 9] 5)).alloc (.cells #[.int .i64 0,.slice (some ⟨w4.heap.size,0,none⟩) 2 2] 39)) B R a bs cap X E O (.slice a1 es.length c1) es/\Mine ((w4.alloc (.cells #[.int .u8 9,.int .u8 9] 5)).alloc (.cells #[.int .i64 0,.slice (some ⟨w4.heap.size,0,none⟩) 2 2] 39)) w4.heap.size ((w4.alloc (.cells #[.int .u8 9,.int .u8 9] 5)).alloc (.cells #[.int .i64 0,.slice (some ⟨w4.heap.size,0,none⟩) 2 2] 39)).heap.size (some ⟨w4.heap.size,0,none⟩) 2 [9,9]):=
    ⟨HM5.out.1.al _,(HM5.out.2.below ((Below.refl _ _).alloc nl _)).mono nl (by simp)⟩
   have HXX:Hid (∀ j u,(El.cells true ⟨0,some ⟨w4.heap.size,0,none⟩,2,[9,9]⟩)[j]?=some u->((w4.alloc (.cells #[.int .u8 9,.int .u8 9] 5)).alloc (.cells #[.int .i64 0,.slice (some ⟨w4.heap.size,0,none⟩) 2 2] 39)).cell? ⟨w4.heap.size+1,j,none⟩=some u):=fun j u hj=>by
    have h9:=z6y (w4.alloc (.cells #[.int .u8 9,.int .u8 9] 5)) 0 (some ⟨w4.heap.size,0,none⟩) 2 2 39 ⟨0,some ⟨w4.heap.size,0,none⟩,2,[9,9]⟩ rfl rfl rfl rfl j u hj
    simpa using h9
   obtain ⟨m0,m1,m2,-,-,-,mlt⟩:=HM.out.box;clear HM HM5;go_wp2_with (at_builtin;(refine z7b rfl (.tmp 52) (.tmp 55) rfl (w.heap.size+1) (.slice a1 es.length c1) es rfl HM6.out.1.own.row (w4.heap.size+1) 1 ⟨0,some ⟨w4.heap.size,0,none⟩,2,[9,9]⟩ (by simp [Act.eval]) HXX.out (by omega) (by simp;omega) ?_);intro v7 w7 hov7 hg7 hat7;obtain ⟨a7,c7,rfl⟩:=hov7.form;obtain ⟨hbx7,hrs7,hN7⟩:=HM6.out.1.more (e:=⟨0,some ⟨w4.heap.size,0,none⟩,2,[9,9]⟩) (HM6.out.2.mono (by omega) nl) (by rintro k ⟨x,hx,rfl⟩;cases hx;simp only;omega) ⟨⟨by simp,by simp,by unfold maxLen;simp,by simp⟩,by simp⟩ (by omega) hov7 hg7 hat7;have HN:Hid _:=hN7;obtain ⟨b0,b1,b2,g0,g1,g2,glt⟩:=hbx7;obtain ⟨r0,r1,r2,rf0,rf1,rf2,rlt⟩:=hrs7;clear hN7 hov7 hg7 hat7 HM6 HXX;generalize (es++[(⟨0,some ⟨w4.heap.size,0,none⟩,2,[9,9]⟩:El)])=fs at *;have hXn:¬X=w.heap.size:=(by omega))
   have hNE:=HN.out.rE;have hNO:=HN.out.rO;obtain ⟨va,vc,ev,hF⟩:=HN.out.fin;obtain ⟨rfl,rfl⟩:a7=va/\c7=vc:=by simpa using ev
   have HF:Hid _:=hF;clear hF ev HN;exact bodyPost_ret (v:=.agg #[.int .i64 E,.int .i64 O,.slice a7 fs.length c7]) (by simp [results,Tryz.results26,go_sem,r0,r1,r2,hXn]) rfl ⟨E,O,a7,c7,fs,rfl,hNE,hNO,HF.out.1,HF.out.2.1,HF.out.2.2⟩
  ·have HM4:Hid (PkN w0 w w4 B R a bs cap X E O (.slice a1 es.length c1) es):=HM.out
   clear HM hXw;go_wp2
   go_loopw [4] (fun iv wr=>∃ (k:Nat) (a5:Option Addr) (c5:Nat) (fs:List El),k<=5/\iv=.int .i64 k/\fs.length<=6+k/\PkN w0 w wr B R a bs cap X E O (.slice a5 fs.length c5) fs) (fun iv _=>5-(intOf iv).toNat)
   case atStart=>exact ⟨0,a1,c1,es,by omega,rfl,by omega,HM4.out⟩
   case round=>
    clear HM4;obtain ⟨k,a5,c5,fs,hk,rfl,hfl,hp⟩:=hrel;have HM:Hid (PkN w0 w wr B R a bs cap X E O (.slice a5 fs.length c5) fs):=hp;clear hp
    by_cases hlt:k<5
    ·have hltI:(k:Int)<5:=by omega
     have hwk:IntKind.i64.wrap (8+(k:Int))=8+k:=IntWalk.i64_in _ (by omega)
     have HMD:Hid (PkN w0 w wr.drew B R a bs cap X E O (.slice a5 fs.length c5) fs):=HM.out.dw;clear HM;go_wp2;refine zj (S:=fun W=>W.cell? ⟨X,2,none⟩=some (.slice a5 fs.length c5)) 11 (by kernel_rfl) (by kernel_rfl) (by exact HMD.out.box.c2) (fun hHeld=>?_)
     refine tk 0 ?_
     try simp only [tkS]
     refine tk 1 ?_
     try simp only [tkS]
     refine tk 2 ?_
     try simp only [tkS]
     refine tk 3 ?_
     try simp only [tkS]
     refine tk 4 ?_
     try simp only [tkS]
     refine wpAnyH_ready (rs:=[5]) (by kernel_rfl) (by simp) ?_
     refine AllReadyH.cons rfl (fun K hK=>?_) AllReadyH.nil
     go_simp
     refine HMD.out.dr.block.mono ?_;rintro e w5 ⟨a6,c6,ls,rfl,hl64,hov,hd5,ho5⟩;have HM5:Hid (PkN w0 w w5 B R a bs cap X E O (.slice a5 fs.length c5) fs):=HMD.out.cur hd5 ho5;have HPK:=z65 0 a6 c6 ls w5 hov.byt hl64 (by omega)
     have hpb:=zni hl64 hov.2 (k:=0) (by omega)
     clear hov hd5 ho5 HMD;generalize pkV 0 ls=ql at *
     dsimp only
     refine hK.out _ _ (by exact HM5.out.box.c2) (fun hHeld=>?_)
     clear hK K
     try simp only [tkS]
     refine wpAnyH_ready (rs:=[6]) (by kernel_rfl) (by simp) ?_
     refine AllReadyH.cons rfl (fun K hK=>?_) AllReadyH.nil
     go_simp
     refine HPK.mono ?_;clear HPK;rintro e w6 ⟨⟨qa,qc,rfl,hm⟩,hb6⟩;have HM6:Hid (PkN w0 w w6 B R a bs cap X E O (.slice a5 fs.length c5) fs/\Mine w6 w5.heap.size w6.heap.size qa qc ql/\X<w5.heap.size/\w5.heap.size<=w6.heap.size):=⟨HM5.out.late hb6,hm,HM5.out.box.lt,hb6.size⟩;clear hm hb6 HM5
     dsimp only
     refine hK.out _ _ (by exact HM6.out.1.box.c2) (fun hHeld=>?_)
     clear hK K
     try simp only [tkS]
     refine tk 7 ?_
     try simp only [tkS]
     refine wpAnyH_ready (rs:=[8]) (by kernel_rfl) (by simp) ?_
     refine AllReadyH.cons rfl (fun K hK=>?_) AllReadyH.nil
     go_simp
     have HM7:Hid (PkN w0 w (w6.alloc (.cells #[.int .i64 (8+(k:Int)),.slice qa ql.length qc] 39)) B R a bs cap X E O (.slice a5 fs.length c5) fs/\Mine (w6.alloc (.cells #[.int .i64 (8+(k:Int)),.slice qa ql.length qc] 39)) w5.heap.size (w6.alloc (.cells #[.int .i64 (8+(k:Int)),.slice qa ql.length qc] 39)).heap.size qa qc ql):=⟨HM6.out.1.al _,(HM6.out.2.1.below ((Below.refl _ _).alloc nl _)).mono nl (by simp)⟩
     refine hK.out _ _ (by exact HM7.out.1.box.c2) (fun hHeld=>?_)
     clear hK K
     try simp only [tkS]
     refine wpAnyH_ready (rs:=[9]) (by kernel_rfl) (by simp) ?_
     refine AllReadyH.cons rfl (fun K hK=>?_) AllReadyH.nil
     refine z1e rfl (z2y (.tmp 16) (.tmp 23) rfl (w.heap.size+1) (.slice a5 fs.length c5) fs (by simp [Act.eval]) HM7.out.1.own.row w6.heap.size 1 ⟨8+(k:Int),qa,qc,ql⟩ (by simp [Act.eval]) (z6y w6 (8+(k:Int)) qa ql.length qc 39 ⟨8+(k:Int),qa,qc,ql⟩ rfl rfl rfl rfl) (by omega) (by have:=HM7.out.1.box.lt;have:=HM6.out.2.2;omega) ?_)
     intro v7 w7 hov7 hg7 hat7
     obtain ⟨a7,c7,rfl⟩:=hov7.form;obtain ⟨hbx7,hrs7,hN7⟩:=HM7.out.1.more (e:=⟨8+(k:Int),qa,qc,ql⟩) (HM7.out.2.mono (by have:=HM6.out.2.2;omega) nl) (fun j hj e9=>by have h9:=(HM7.out.2.rowE hj).1;have:=HM6.out.2.2;omega) ⟨⟨by simp only;omega,by simp only;omega,by unfold maxLen;simp only;omega,by simp⟩,by simp only;omega⟩ (by omega) hov7 hg7 hat7
     have HN:Hid _:=hN7;obtain ⟨b0,b1,b2,g0,g1,g2,glt⟩:=hbx7;clear hrs7;have hgl:(fs++[(⟨8+(k:Int),qa,qc,ql⟩:El)]).length<=6+(k+1):=by simp;omega
     clear hN7 hov7 hg7 hat7 HM7 HM6;refine hK.out _ _ (by exact b2) (fun hHeld=>?_)
     clear hK K
     try simp only [tkS]
     refine tk 10 ?_
     try simp only [tkS]
     refine wpAnyH_done (by kernel_rfl) ?_ _
     simp only [z0d,List.drop_succ_cons,List.drop_zero]
     generalize (fs++[(⟨8+(k:Int),qa,qc,ql⟩:El)])=gs at *;go_wp2;go_roundw
     case rel=>exact ⟨k+1,a7,c7,gs,by omega,by go_num,hgl,HN.out⟩
     case measure=>simp [intOf];omega
    ·have hltI:¬(k:Int)<5:=by omega
     have HN:Hid (PkN w0 w wr B R a bs cap X E O (.slice a5 fs.length c5) fs):=HM.out;clear HM;obtain ⟨b0,b1,b2,g0,g1,g2,glt⟩:=HN.out.box;obtain ⟨r0,r1,r2,rf0,rf1,rf2,rlt⟩:=HN.out.res;have hXn:¬X=w.heap.size:=by have:=HN.out.hX;omega
     have hNE:=HN.out.rE;have hNO:=HN.out.rO;obtain ⟨va,vc,ev,hF⟩:=HN.out.fin;obtain ⟨rfl,rfl⟩:a5=va/\c5=vc:=by simpa using ev
     have HF:Hid _:=hF;clear hF ev HN;go_wp2;exact bodyPost_ret (v:=.agg #[.int .i64 E,.int .i64 O,.slice a5 fs.length c5]) (by simp [results,Tryz.results26,go_sem,r0,r1,r2,hXn]) rfl ⟨E,O,a5,c5,fs,rfl,hNE,hNO,HF.out.1,HF.out.2.1,HF.out.2.2⟩
end Go.Proofs.YtjmcjbmjgpponaaGreatDoor
