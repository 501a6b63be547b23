/- Lemmas on the way. -/
import Derived.Test.YtfeokafkhnbdiaaGreatDoorNGet2
import Derived.Test.YtfeokafkhnbdiaaGreatDoorLen8
import Derived.Test.YtfeokafkhnbdiaaGreatDoorTakeI
import Derived.Test.YtfeokafkhnbdiaaGreatDoorSy2
import Derived.Test.YtfeokafkhnbdiaaGreatDoorPmB
import Derived.Test.YtfeokafkhnbdiaaGreatDoorPut1
import Derived.BigQuiet
set_option maxRecDepth 20000
set_option maxHeartbeats 16000000
namespace Go.Proofs.YtfeokafkhnbdiaaGreatDoor
open Go.RowKit
set_option linter.unusedVariables false
set_option linter.unusedSimpArgs false
theorem gXs_succ (V p k:Nat):gXs V p (k+1)=gXs V p k++[((gX V p k:Nat):Int)]:=by
 simp [gXs,List.range_succ]
theorem gXs_sum {n V p:Nat} (k:Nat) (h:good n V p k):(gXs V p k).sum+(((gL V p k).1:Nat):Int)=64:=by
 induction k with
 | zero=>rfl
 | succ k ih=>
  have h1:=ih (fun j hj=>h j (by omega))
  have h2:=(h k (by omega)).2
  rw [gXs_succ,List.sum_append,gL_succ1]
  simp only [List.sum_cons,List.sum_nil,Int.add_zero]
  omega
theorem got_normB {n V p s:Nat} (hs1:1≤s) (hs:s≤80) (h:gotN n V p s):normB (gXs V p s)=true:=by
 have h0:=gXs_sum s h.1
 rw [h.2] at h0
 simp only [normB,decide_eq_true_eq]
 rw [gXs_len]
 refine ⟨hs1,hs,fun z hz=>?_,by simpa using h0⟩
 simp only [gXs,List.mem_map,List.mem_range] at hz
 obtain ⟨k,hk,rfl⟩:=hz
 have h1:=(h.1 k hk).2
 have h2:=gL_le V p k
 omega
def tbN (V p:Nat):List Int:=tb (pl (fl 0 (gXs V p 40)) (plc 64)) (gXs V p 40) 64
def RdT (n V p N:Nat) (ts:List Int) (E k:Nat):Prop:=gotN n V p 40∧(gL V p 40).2+9=E∧E≤n∧bt V (gL V p 40).2 9=k∧E+k≤n∧fgB (tbN V p) (bt V (E+k) (n-(E+k))) (n-(E+k)) N=true∧so (tbN V p) (bt V (E+k) (n-(E+k))) (n-(E+k)-6) N=ts
theorem RdT.unique {n V p N:Nat} {ts ts':List Int} {E k E' k':Nat} (h:RdT n V p N ts E k) (h':RdT n V p N ts' E' k'):ts=ts'∧E=E'∧k=k':=by
 obtain ⟨-,rfl,-,rfl,-,-,rfl⟩:=h
 obtain ⟨-,rfl,-,rfl,-,-,rfl⟩:=h'
 exact ⟨rfl,rfl,rfl⟩
theorem getByTable_any (R B:Nat) (a:Option Addr) (cap:Nat) (zs:List Int) (n V p N:Nat) (w0 w:World) (hb:Byt w0 a zs) (hB:w0.heap.size=B) (hbel:Below B w0 w) (hz:zs=enc n V) (hn:n≤4096) (hR:RD w B R a zs.length cap n p) (hp:p≤n) (hN:N≤300) (hS:SentD w0) :
  Calls Tryz.prog 136 #[.pointer (some ⟨R,0,none⟩),.int .i64 N] w fun e w'=>Only (fun k=>k=R) w w' ∧
   ((∃ ts E k g a' cp,RdT n V p N ts E k∧E+k≤n∧OwI w' w.heap.size g N ts∧Mine w' w.heap.size w'.heap.size a' cp (enc k (bt V E k)) ∧
     e=.returned (.tuple #[.slice (some ⟨g,0,none⟩) N N,.agg #[.slice a' (enc k (bt V E k)).length cp,.int .i64 (k:Nat)],.nilIface])) ∨
    ((¬∃ ts E k,RdT n V p N ts E k)∧∃ T x v z l c M,e=.returned (.tuple #[v,.agg #[.slice z l c,.int .i64 M],.iface T x]))):=by
 have hRl:R<w.heap.size:=(Array.getElem?_eq_some_iff.1 hR.1).1
 have hBW:Below B w0 w∧B≤R∧B≤w.heap.size:=⟨hbel,hR.2.1,hR.2.2⟩
 have HQ:Hid (Byt w0 a zs∧w0.heap.size=B∧zs=enc n V∧SentD w0∧(Below B w0 w∧B≤R∧B≤w.heap.size)):=⟨hb,hB,hz,hS,hBW⟩
 have hA1:=AnO.new R w
 have hG1:=hS.hG
 have hG2:=hS.f.hG
 have HGL:=getNorm_fr R B a cap zs n V p 40 w0 _ hb hB (fr_below hBW hA1.on) hz hn (hR.only (Only.alloc (Only.refl (fun _=>False) w) _) (by simp)) hp (by omega) hS.f.s0 hS.f.s1 hS.s5 (by omega)
 have HA1:Hid _:=hA1
 clear hb hB hz hS hBW hbel hR hA1
 go_enter Tryz.func136,Tryz.ntmps136
 go_wp2_with fail
 refine HGL.mono ?_
 clear HGL
 rintro e w2 ⟨hb2,hy2,hn2,ho2⟩
 have HA2:Hid (AnO R w w2):=AnO.step HA1.out ho2 hRl
 clear HA1 ho2
 by_cases hex:gotN n V p 40
 ·obtain ⟨rfl,how2,hrd2⟩:=hy2 hex
  have hqn:(gL V p 40).2≤n:=good_pos hp hex.1
  have HGN:Hid (gotN n V p 40∧OwI w2 B (w.alloc (Obj.cells #[.slice none 0 0,.int .i64 0] 40)).heap.size 40 (gXs V p 40)∧RD w2 B R a zs.length cap n (gL V p 40).2∧Below B w0 w2):=⟨hex,how2,hrd2,hb2⟩
  have hgs:=how2.lt
  clear hy2 hn2 hb2 how2 hrd2 hex
  simp only [World.size_alloc] at HGN hgs
  obtain ⟨q,hq⟩:∃ q,q=(gL V p 40).2:=⟨_,rfl⟩
  rw [←hq] at hqn HGN
  have HQE:Hid (q=(gL V p 40).2):=hq
  clear hq
  by_cases c9:q+9≤n
  ·have HG9:=HGN.out.2.2.1.yes V 9 (by omega) (HQ.out.1.below HGN.out.2.2.2 (by rw [HQ.out.2.1];exact Nat.le_refl _)) HQ.out.2.2.1 (by omega) (by omega) (by omega)
   go_wp2_with fail
   refine HG9.mono ?_
   clear HG9
   rintro e w3 ⟨rfl,hrd3,ho3,hb3⟩
   have hA3:AnO R w w3:=AnO.step HA2.out ho3 hRl
   have hO3:OwI w3 B (w.heap.size+1) 40 (gXs V p 40):=HGN.out.2.1.only ho3 (by omega)
   have hbl3:Below B w0 w3:=HGN.out.2.2.2.trans hb3
   obtain ⟨k,hk⟩:∃ k,k=bt V q 9:=⟨_,rfl⟩
   rw [show V / 2 ^ q % 2 ^ (9:Int).toNat=k from hk.symm]
   have hk9:k<512:=by rw [hk];exact bt_lt V q 9
   have HKE:Hid (bt V q 9=k):=hk.symm
   clear hk
   obtain ⟨E,hE⟩:∃ E,E=q+9:=⟨_,rfl⟩
   have hrd3':RD w3 B R a zs.length cap n E:=by rw [hE];exact hrd3
   have hEn:E≤n:=by omega
   have HEE:Hid (E=q+9):=hE
   have HGO:Hid (gotN n V p 40):=HGN.out.1
   have hgl:=hO3.lt.2
   have hbz3:Byt w3 a zs:=HQ.out.1.below hbl3 (by rw [HQ.out.2.1];exact Nat.le_refl _)
   have hSD3:SentD w3:=HQ.out.2.2.2.1.below (by rw [HQ.out.2.1];exact hbl3)
   clear hrd3 ho3 hb3 HA2 HGN hE
   by_cases ck:E+k≤n
   ·have HTK:=take_yes R B a cap zs n V E k w3 hrd3' hbz3 HQ.out.2.2.1 hn ck hSD3.t
    have HS3:Hid (AnO R w w3∧OwI w3 B (w.heap.size+1) 40 (gXs V p 40)∧Below B w0 w3∧Byt w3 a zs∧SentD w3):=⟨hA3,hO3,hbl3,hbz3,hSD3⟩
    clear hA3 hO3 hbl3 hbz3 hSD3 hrd3'
    go_wp2_with fail
    refine HTK.mono ?_
    clear HTK
    rintro e w4 ⟨a4,c4,rfl,hm4,hrd4,ho4⟩
    have z34:=ho4.size
    obtain ⟨es,hes⟩:∃ es,es=enc k (bt V E k):=⟨_,rfl⟩
    rw [←hes] at hm4 ⊢
    have HES:Hid (es=enc k (bt V E k)):=hes
    clear hes
    have hO5:Only (fun k=>k=R) w3 (w4.alloc (Obj.cells #[.slice a4 es.length c4,.int .i64 (k:Nat)] 40)):=ho4.alloc _
    have hrd5:RD (w4.alloc (Obj.cells #[.slice a4 es.length c4,.int .i64 (k:Nat)] 40)) B R a zs.length cap n (E+k):=hrd4.only ((Only.refl (fun _=>False) w4).alloc _) (by simp)
    have hm5:Mine (w4.alloc (Obj.cells #[.slice a4 es.length c4,.int .i64 (k:Nat)] 40)) w3.heap.size w4.heap.size a4 c4 es:=hm4.only ((Only.refl (fun _=>False) w4).alloc _) (by simp)
    have hn5:=heap_alloc_new w4 (Obj.cells #[.slice a4 es.length c4,.int .i64 (k:Nat)] 40)
    have z45:w4.heap.size<(w4.alloc (Obj.cells #[.slice a4 es.length c4,.int .i64 (k:Nat)] 40)).heap.size:=by simp
    have HS5:Hid _:=(⟨hO5,hrd5,hm5,hn5⟩:_∧_∧_∧_)
    have HLE:=hrd5.left (by omega) (by omega)
    clear hm4 hrd4 ho4 hO5 hrd5 hm5 hn5
    go_wp2_with fail
    refine HLE.mono ?_
    clear HLE
    rintro e w6 ⟨rfl,m6,rfl⟩
    have hO6:Only (fun k=>k=R) w3 ((w4.alloc (Obj.cells #[.slice a4 es.length c4,.int .i64 (k:Nat)] 40)).drewN m6):=HS5.out.1.drewN m6
    have hrd6:RD ((w4.alloc (Obj.cells #[.slice a4 es.length c4,.int .i64 (k:Nat)] 40)).drewN m6) B R a zs.length cap n (E+k):=RD.only HS5.out.2.1 ((Only.refl (fun _=>False) _).drewN m6) (by simp)
    have hm6:Mine ((w4.alloc (Obj.cells #[.slice a4 es.length c4,.int .i64 (k:Nat)] 40)).drewN m6) w3.heap.size w4.heap.size a4 c4 es:=Mine.only HS5.out.2.2.1 ((Only.refl (fun _=>False) _).drewN m6) (by simp)
    have hn6:((w4.alloc (Obj.cells #[.slice a4 es.length c4,.int .i64 (k:Nat)] 40)).drewN m6).heap[w4.heap.size]?=some (.cells #[.slice a4 es.length c4,.int .i64 (k:Nat)] 40 (0,0)):=HS5.out.2.2.2
    clear HS5 z45
    generalize (w4.alloc (Obj.cells #[.slice a4 es.length c4,.int .i64 (k:Nat)] 40)).drewN m6=w6 at *
    have z46:w4.heap.size<w6.heap.size:=(Array.getElem?_eq_some_iff.1 hn6).1
    have hA6:AnO R w w6:=AnO.step HS3.out.1 hO6 hRl
    have hO66:OwI w6 B (w.heap.size+1) 40 (gXs V p 40):=HS3.out.2.1.only hO6 (by omega)
    have hbl6:=fr_below HQ.out.2.2.2.2 hA6.on
    have hbz6:Byt w6 a zs:=HQ.out.1.below hbl6 (by rw [HQ.out.2.1];exact Nat.le_refl _)
    have hSD6:SentD w6:=HQ.out.2.2.2.1.below (by rw [HQ.out.2.1];exact hbl6)
    have hM:((n:Int)-((E+k:Nat):Int))=((n-(E+k):Nat):Int):=by omega
    rw [hM]
    have HTK:=take_yes R B a cap zs n V (E+k) (n-(E+k)) w6 hrd6 hbz6 HQ.out.2.2.1 hn (by omega) hSD6.t
    have hmn:n-(E+k)≤4096:=by omega
    have HRD:Hid (∀ ts,RdT n V p N ts E k↔fgB (tbN V p) (bt V (E+k) (n-(E+k))) (n-(E+k)) N=true∧so (tbN V p) (bt V (E+k) (n-(E+k))) (n-(E+k)-6) N=ts):=by
     intro ts
     constructor
     ·rintro ⟨-,-,-,-,-,h1,h2⟩
      exact ⟨h1,h2⟩
     ·rintro ⟨h1,h2⟩
      exact ⟨HGO.out,by rw [←HQE.out];exact HEE.out.symm,hEn,by rw [←HQE.out];exact HKE.out,ck,h1,h2⟩
    have HRN:Hid (fgB (tbN V p) (bt V (E+k) (n-(E+k))) (n-(E+k)) N=false→¬∃ ts E k,RdT n V p N ts E k):=by
     rintro h0 ⟨ts,E',k',h1⟩
     obtain ⟨-,e1,-,e2,-,h5,-⟩:=h1
     rw [←HQE.out,←HEE.out] at e1
     rw [←HQE.out,HKE.out] at e2
     subst e1 e2
     rw [h0] at h5
     cases h5
    have HS6:Hid (AnO R w w6∧OwI w6 B (w.heap.size+1) 40 (gXs V p 40)∧SentD w6∧Mine w6 w3.heap.size w4.heap.size a4 c4 es∧w6.heap[w4.heap.size]?=some (.cells #[.slice a4 es.length c4,.int .i64 (k:Nat)] 40 (0,0))):=⟨hA6,hO66,hSD6,hm6,hn6⟩
    have z3:w.heap.size<w3.heap.size:=HS3.out.1.lt
    clear HS3 hA6 hO66 hSD6 hm6 hn6 hO6 hrd6 hbl6 hbz6 hM
    generalize n-(E+k)=M at *
    generalize bt V (E+k) M=U at *
    go_wp2_with fail
    refine HTK.mono ?_
    clear HTK
    rintro e w7 ⟨a7,c7,rfl,hm7,hrd7,ho7⟩
    have z67:=ho7.size
    obtain ⟨xs,hxs⟩:∃ xs,xs=enc M U:=⟨_,rfl⟩
    rw [←hxs] at hm7 ⊢
    have hA8:AnO R w (w7.alloc (Obj.cells #[.slice a7 xs.length c7,.int .i64 (M:Nat)] 40)):=AnO.step HS6.out.1 (ho7.alloc _) hRl
    have hO8:OwI (w7.alloc (Obj.cells #[.slice a7 xs.length c7,.int .i64 (M:Nat)] 40)) B (w.heap.size+1) 40 (gXs V p 40):=HS6.out.2.1.only (ho7.alloc _) (by omega)
    have hm8:Mine (w7.alloc (Obj.cells #[.slice a7 xs.length c7,.int .i64 (M:Nat)] 40)) w6.heap.size w7.heap.size a7 c7 xs:=hm7.only ((Only.refl (fun _=>False) w7).alloc _) (by simp)
    have hs8:Mine (w7.alloc (Obj.cells #[.slice a7 xs.length c7,.int .i64 (M:Nat)] 40)) w3.heap.size w4.heap.size a4 c4 es:=HS6.out.2.2.2.1.only (ho7.alloc _) (fun b h1 _=>by omega)
    have hn8:(w7.alloc (Obj.cells #[.slice a7 xs.length c7,.int .i64 (M:Nat)] 40)).heap[w4.heap.size]?=_:=((ho7.alloc (Obj.cells #[.slice a7 xs.length c7,.int .i64 (M:Nat)] 40)).block w4.heap.size z46 (by omega)).trans HS6.out.2.2.2.2
    have hSD8:SentD (w7.alloc (Obj.cells #[.slice a7 xs.length c7,.int .i64 (M:Nat)] 40)):=HQ.out.2.2.2.1.below (by rw [HQ.out.2.1];exact fr_below HQ.out.2.2.2.2 hA8.on)
    have HTX:=wholeText_any (some ⟨w.heap.size+1,0,none⟩) 40 (gXs V p 40) a7 c7 xs M U N (tbN V p) _ hO8.byt hm8.byt hxs hmn hN (got_normB (by omega) (by omega) HGO.out) rfl hSD8.f
    rw [gXs_len] at HTX
    have z8:w7.heap.size<(w7.alloc (Obj.cells #[.slice a7 xs.length c7,.int .i64 (M:Nat)] 40)).heap.size:=by simp
    have HS8:Hid (AnO R w _∧Mine _ w3.heap.size w4.heap.size a4 c4 es∧_):=⟨hA8,hs8,hn8⟩
    clear hA8 hO8 hm8 hs8 hn8 hSD8 HS6 hm7 hrd7 ho7 hxs
    go_wp2_with fail
    refine HTX.mono ?_
    clear HTX
    rintro e w9 ⟨hb9,hcs⟩
    have hA9:AnO R w w9:=AnO.step HS8.out.1 (Only.ofBelow hb9 nl) hRl
    have HM9:Hid (Mine w9 w3.heap.size w4.heap.size a4 c4 es):=Mine.below HS8.out.2.1 hb9
    have hn9:=(hb9.block w4.heap.size (by omega)).trans HS8.out.2.2
    have b0:w9.cell? ⟨w4.heap.size,0,none⟩=some (.slice a4 es.length c4):=cellR (j:=0) hn9 rfl
    have b1:w9.cell? ⟨w4.heap.size,1,none⟩=some (.int .i64 (k:Nat)):=cellR (j:=1) hn9 rfl
    have z9:=hb9.size
    have HON:Hid (Only (fun k=>k=R) w w9):=hA9.on
    obtain ⟨x0,x1,y0,y1,hlt9,_⟩:=hA9
    clear hb9 hn9 HS8
    have hne:w.heap.size≠w4.heap.size:=by omega
    rcases hcs with ⟨hf,T',y,rfl⟩ | ⟨hf,g,rfl,hog⟩
    ·have HNO:Hid (¬∃ ts E k,RdT n V p N ts E k):=HRN.out hf
     clear hf HRN HRD
     go_wp2
     go_region
     go_wp2
     refine bodyPost_ret (v:=.tuple #[.slice none 0 0,.agg #[.slice a4 es.length c4,.int .i64 (k:Nat)],.iface T' y]) (by simp [results,Tryz.results136,go_sem,x0,x1]) rfl ⟨?_,.inr ⟨HNO.out,_,_,_,_,_,_,_,rfl⟩⟩
     have h0:=HON.out
     repeat (first | exact h0 | refine Only.drew ?_ | refine Only.setCell ?_ (.inr (by simp)) _)
    ·have HYE:Hid (RdT n V p N (so (tbN V p) U (M-6) N) E k):=(HRD.out _).2 ⟨hf,rfl⟩
     have HOG:Hid (OwI w9 w.heap.size g N (so (tbN V p) U (M-6) N)∧w7.heap.size<g):=⟨hog.mono (by omega),by have:=hog.lt.1;omega⟩
     clear hf HRN HRD hog
     go_wp2
     go_region
     go_wp2
     have hO9:Only (fun k=>k=w.heap.size) w9 ((w9.setCell ⟨w.heap.size,0,none⟩ (.slice a4 es.length c4)).setCell ⟨w.heap.size,1,none⟩ (.int .i64 (k:Nat))).drew:=
      (Only.setCell (Only.setCell (Only.refl (fun k=>k=w.heap.size) w9) (p:=⟨w.heap.size,0,none⟩) (.inl rfl) _) (p:=⟨w.heap.size,1,none⟩) (.inl rfl) _).drew
     refine bodyPost_ret (v:=.tuple #[.slice (some ⟨g,0,none⟩) N N,.agg #[.slice a4 es.length c4,.int .i64 (k:Nat)],.nilIface]) (by simp [results,Tryz.results136,go_sem,x0,x1]) rfl ⟨?_,.inl ⟨_,E,k,g,a4,c4,HYE.out,ck,?_,?_,by rw [HES.out]⟩⟩
     ·have h0:=HON.out
      repeat (first | exact h0 | refine Only.drew ?_ | refine Only.setCell ?_ (.inr (by simp)) _)
     ·exact HOG.out.1.only hO9 (by have:=HOG.out.2;omega)
     ·rw [←HES.out]
      exact (HM9.out.only hO9 (fun b h1 _=>by omega)).mono (by omega) (Nat.le_trans (by omega) hO9.size)
   ·have HNO:Hid (¬∃ ts E k,RdT n V p N ts E k):=by
     rintro ⟨ts,E',k',-,h1,-,h2,h3,-⟩
     rw [←HQE.out,HKE.out] at h2
     rw [←HQE.out,←HEE.out] at h1
     omega
    have HTK:=take_no R B a zs.length cap n E k w3 hrd3' hn hEn (by omega) (by omega) hSD3.t
    have HA3:Hid (AnO R w w3):=hA3
    clear hA3 hO3 hbl3 hbz3 hSD3 hrd3'
    go_wp2_with fail
    refine HTK.mono ?_
    clear HTK
    rintro e w4 ⟨T,y,rfl,hb4⟩
    have hA4:AnO R w w4:=AnO.step HA3.out (Only.ofBelow hb4 nl) hRl
    have HON:Hid (Only (fun k=>k=R) w w4):=hA4.on
    obtain ⟨x0,x1,y0,y1,hlt4,_⟩:=hA4
    clear hb4 HA3
    go_wp2
    refine bodyPost_ret (v:=.tuple #[.slice none 0 0,.agg #[.slice none 0 0,.int .i64 0],.iface T y]) (by simp [results,Tryz.results136,go_sem,x0,x1,hlt4]) rfl ⟨?_,.inr ⟨HNO.out,_,_,_,_,_,_,_,rfl⟩⟩
    have h0:=HON.out
    repeat (first | exact h0 | refine Only.setCell ?_ (.inr (by simp)) _ | refine Only.alloc ?_ _)
  ·have HNO:Hid (¬∃ ts E k,RdT n V p N ts E k):=by
    rintro ⟨ts,E,k,-,h1,h2,-⟩
    have:=HQE.out
    omega
   have HG9:=HGN.out.2.2.1.no 9 (by omega) (by omega) (HQ.out.2.2.2.1.f.s0.below HGN.out.2.2.2 (by have:=HQ.out.2.1;omega)) (HQ.out.2.2.2.1.f.s1.below HGN.out.2.2.2 (by have:=HQ.out.2.1;omega)) (by omega)
   go_wp2_with fail
   refine HG9.mono ?_
   clear HG9
   rintro e w3 ⟨⟨T,y,rfl⟩,m,rfl⟩
   have hA4:AnO R w (w2.drewN m):=AnO.step HA2.out ((Only.refl _ _).drewN m) hRl
   generalize w2.drewN m=w4 at *
   have HON:Hid (Only (fun k=>k=R) w w4):=hA4.on
   obtain ⟨x0,x1,y0,y1,_,_⟩:=hA4
   go_wp2
   refine bodyPost_ret (v:=.tuple #[.slice none 0 0,.agg #[.slice none 0 0,.int .i64 0],.iface T y]) (by simp [results,Tryz.results136,go_sem,x0,x1]) rfl ⟨?_,.inr ⟨HNO.out,_,_,_,_,_,_,_,rfl⟩⟩
   have h0:=HON.out
   repeat (first | exact h0 | refine Only.setCell ?_ (.inr (by simp)) _)
 ·obtain ⟨T,x,v,rfl⟩:=hn2 hex
  have HNO:Hid (¬∃ ts E k,RdT n V p N ts E k):=fun ⟨ts,E,k,h,_⟩=>hex h
  have x0:=HA2.out.r0
  have x1:=HA2.out.r1
  have y0:=HA2.out.f0
  have y1:=HA2.out.f1
  clear hy2 hn2 hex hb2
  go_wp2
  refine bodyPost_ret (v:=.tuple #[.slice none 0 0,.agg #[.slice none 0 0,.int .i64 0],.iface T x]) (by simp [results,Tryz.results136,go_sem,x0,x1]) rfl ⟨?_,.inr ⟨HNO.out,_,_,_,_,_,_,_,rfl⟩⟩
  have h0:=HA2.out.on
  repeat (first | exact h0 | refine Only.setCell ?_ (.inr (by simp)) _)
def RdS (n V m:Nat) (ts:List Int) (M U:Nat):Prop:=8≤n∧((m=2∧∃ E,RdH n V 8 (bt V 0 8) ts E∧E≤n∧M=n-E∧U=bt V E (n-E))∨(m≠2∧∃ E,RdT n V 8 (bt V 0 8) ts E M∧E+M≤n∧U=bt V E M))
theorem RdS.unique {n V m:Nat} {ts ts':List Int} {M U M' U':Nat} (h:RdS n V m ts M U) (h':RdS n V m ts' M' U'):ts=ts'∧M=M'∧U=U':=by
 obtain ⟨-,⟨hm,E,h1,-,rfl,rfl⟩ | ⟨hm,E,h1,-,rfl⟩⟩:=h
 ·obtain ⟨-,⟨hm',E',h1',-,rfl,rfl⟩ | ⟨hm',E',h1',-,rfl⟩⟩:=h'
  ·obtain ⟨rfl,rfl⟩:=h1.unique h1'
   exact ⟨rfl,rfl,rfl⟩
  ·exact absurd hm hm'
 ·obtain ⟨-,⟨hm',E',h1',-,rfl,rfl⟩ | ⟨hm',E',h1',-,rfl⟩⟩:=h'
  ·exact absurd hm' hm
  ·obtain ⟨rfl,rfl,rfl⟩:=h1.unique h1'
   exact ⟨rfl,rfl,rfl⟩
theorem RdS.le {n V m:Nat} {ts:List Int} {M U:Nat} (h:RdS n V m ts M U):M≤n:=by
 obtain ⟨-,⟨hm,E,h1,-,rfl,rfl⟩ | ⟨hm,E,h1,h2,rfl⟩⟩:=h <;> omega
theorem getSymbols_any (R B:Nat) (a:Option Addr) (cap:Nat) (zs:List Int) (n V m:Nat) (w0 w:World) (hb:Byt w0 a zs) (hB:w0.heap.size=B) (hbel:Below B w0 w) (hz:zs=enc n V) (hn:n≤4096) (hR:RD w B R a zs.length cap n 0) (hm:m≤255) (hS:SentD w0) :
  Calls Tryz.prog 106 #[.pointer (some ⟨R,0,none⟩),.int .i64 m] w fun e w'=>Only (fun k=>k=R) w w' ∧
   ((∃ ts M U g a' cp,RdS n V m ts M U∧OwI w' w.heap.size g (bt V 0 8) ts∧Mine w' w.heap.size w'.heap.size a' cp (enc M U) ∧
     e=.returned (.tuple #[.slice (some ⟨g,0,none⟩) (bt V 0 8) (bt V 0 8),.agg #[.slice a' (enc M U).length cp,.int .i64 (M:Nat)],.nilIface])) ∨
    ((¬∃ ts M U,RdS n V m ts M U)∧∃ T x v z l c M,e=.returned (.tuple #[v,.agg #[.slice z l c,.int .i64 M],.iface T x]))):=by
 have hRl:R<w.heap.size:=(Array.getElem?_eq_some_iff.1 hR.1).1
 have hBW:Below B w0 w∧B≤R∧B≤w.heap.size:=⟨hbel,hR.2.1,hR.2.2⟩
 have HQ:Hid (Byt w0 a zs∧w0.heap.size=B∧zs=enc n V∧SentD w0∧(Below B w0 w∧B≤R∧B≤w.heap.size)):=⟨hb,hB,hz,hS,hBW⟩
 have hA1:=AnO.new R w
 have hG2:=hS.f.hG
 have hrd1:RD (w.alloc (Obj.cells #[.slice none 0 0,.int .i64 0] 40)) B R a zs.length cap n 0:=hR.only (Only.alloc (Only.refl (fun _=>False) w) _) (by simp)
 have hbl1:=fr_below hBW hA1.on
 have HA1:Hid _:=hA1
 by_cases c8:8≤n
 ·have HG8:=hrd1.yes V 8 (by omega) (hb.below hbl1 (by rw [hB];exact Nat.le_refl _)) hz (by omega) (by omega) (by omega)
  clear hb hB hz hS hBW hbel hR hA1 hrd1 hbl1
  go_enter Tryz.func106,Tryz.ntmps106
  go_wp2_with fail
  refine HG8.mono ?_
  clear HG8
  rintro e w3 ⟨rfl,hrd3,ho3,hb3⟩
  have hA3:AnO R w w3:=AnO.step HA1.out ho3 hRl
  have hbl3:=fr_below HQ.out.2.2.2.2 hA3.on
  have hN8:bt V 0 8<256:=bt_lt V 0 8
  rw [show V / 2 ^ 0 % 2 ^ (8:Int).toNat=bt V 0 8 from rfl]
  have hrd3':RD w3 B R a zs.length cap n 8:=hrd3
  have HLL:=getByLengths_any R B a cap zs n V 8 (bt V 0 8) w0 w3 HQ.out.1 HQ.out.2.1 hbl3 HQ.out.2.2.1 hn hrd3' c8 (by omega) HQ.out.2.2.2.1
  have HTT:=getByTable_any R B a cap zs n V 8 (bt V 0 8) w0 w3 HQ.out.1 HQ.out.2.1 hbl3 HQ.out.2.2.1 hn hrd3' c8 (by omega) HQ.out.2.2.2.1
  have HA3:Hid (AnO R w w3):=hA3
  have z3:=hA3.lt
  clear HA1 hrd3 hrd3' ho3 hb3 hA3 hbl3
  obtain ⟨N,hNe⟩:∃ N,N=bt V 0 8:=⟨_,rfl⟩
  rw [←hNe] at HLL HTT hN8 ⊢
  have HNE:Hid (N=bt V 0 8):=hNe
  clear hNe
  by_cases hm2:m=2
  ·have hmi:((m:Int) == 2)=true:=by rw [beq_iff_eq];omega
   clear HTT
   go_wp2_with fail
   refine HLL.mono ?_
   clear HLL
   rintro e w4 ⟨ho4,⟨ts,E,g,a',cp,hrh,hEn,how,hmi4,rfl⟩ | ⟨hno,T,x,v,z,l,c,M,rfl⟩⟩
   ·have hA4:AnO R w w4:=AnO.step HA3.out ho4 hRl
    have HRS:Hid (RdS n V m ts (n-E) (bt V E (n-E))):=⟨c8,.inl ⟨hm2,E,by rw [←HNE.out];exact hrh,hEn,rfl,rfl⟩⟩
    have HF:Hid (Only (fun k=>k=R) w w4∧OwI w4 w3.heap.size g N ts∧Mine w4 w3.heap.size w4.heap.size a' cp (enc (n-E) (bt V E (n-E)))):=⟨hA4.on,how,hmi4⟩
    have hgl:=how.lt.1
    obtain ⟨x0,x1,y0,y1,hlt4,_⟩:=hA4
    clear ho4 hrh how hmi4 HA3
    generalize bt V E (n-E)=U at *
    generalize n-E=M at *
    generalize hES:enc M U=es at *
    have HES:Hid (enc M U=es):=hES
    clear hES
    go_wp2
    have hO9:Only (fun k=>k=w.heap.size) w4 ((w4.setCell ⟨w.heap.size,0,none⟩ (.slice a' es.length cp)).setCell ⟨w.heap.size,1,none⟩ (.int .i64 (M:Nat))):=
     Only.setCell (Only.setCell (Only.refl (fun k=>k=w.heap.size) w4) (p:=⟨w.heap.size,0,none⟩) (.inl rfl) _) (p:=⟨w.heap.size,1,none⟩) (.inl rfl) _
    refine bodyPost_ret (v:=.tuple #[.slice (some ⟨g,0,none⟩) N N,.agg #[.slice a' es.length cp,.int .i64 (M:Nat)],.nilIface]) (by simp [results,Tryz.results106,go_sem,x0,x1]) rfl ⟨?_,.inl ⟨ts,M,U,g,a',cp,HRS.out,?_,?_,by rw [HES.out,HNE.out]⟩⟩
    ·have h0:=HF.out.1
     repeat (first | exact h0 | refine Only.setCell ?_ (.inr (by simp)) _)
    ·rw [←HNE.out]
     exact (HF.out.2.1.mono (by omega)).only hO9 (by omega)
    ·rw [HES.out]
     exact (HF.out.2.2.only hO9 (fun b h1 _=>by omega)).mono (by omega) hO9.size
   ·have HNO:Hid (¬∃ ts M U,RdS n V m ts M U):=by
     rintro ⟨ts,M,U,-,⟨-,E,h1,-⟩ | ⟨h1,-⟩⟩
     ·exact hno ⟨ts,E,by rw [HNE.out];exact h1⟩
     ·exact h1 hm2
    have hA4:AnO R w w4:=AnO.step HA3.out ho4 hRl
    have HON:Hid (Only (fun k=>k=R) w w4):=hA4.on
    obtain ⟨x0,x1,y0,y1,hlt4,_⟩:=hA4
    clear ho4 hno HA3
    go_wp2
    refine bodyPost_ret (v:=.tuple #[v,.agg #[.slice z l c,.int .i64 M],.iface T x]) (by simp [results,Tryz.results106,go_sem,x0,x1]) rfl ⟨?_,.inr ⟨HNO.out,_,_,_,_,_,_,_,rfl⟩⟩
    have h0:=HON.out
    repeat (first | exact h0 | refine Only.setCell ?_ (.inr (by simp)) _)
  ·have hmi:((m:Int) == 2)=false:=by rw [beq_eq_false_iff_ne];omega
   clear HLL
   go_wp2_with fail
   refine HTT.mono ?_
   clear HTT
   rintro e w4 ⟨ho4,⟨ts,E,M,g,a',cp,hrh,hEn,how,hmi4,rfl⟩ | ⟨hno,T,x,v,z,l,c,M,rfl⟩⟩
   ·have hA4:AnO R w w4:=AnO.step HA3.out ho4 hRl
    have HRS:Hid (RdS n V m ts M (bt V E M)):=⟨c8,.inr ⟨hm2,E,by rw [←HNE.out];exact hrh,hEn,rfl⟩⟩
    have HF:Hid (Only (fun k=>k=R) w w4∧OwI w4 w3.heap.size g N ts∧Mine w4 w3.heap.size w4.heap.size a' cp (enc M (bt V E M))):=⟨hA4.on,how,hmi4⟩
    have hgl:=how.lt.1
    obtain ⟨x0,x1,y0,y1,hlt4,_⟩:=hA4
    clear ho4 hrh how hmi4 HA3
    generalize bt V E M=U at *
    generalize hES:enc M U=es at *
    have HES:Hid (enc M U=es):=hES
    clear hES
    go_wp2
    have hO9:Only (fun k=>k=w.heap.size) w4 ((w4.setCell ⟨w.heap.size,0,none⟩ (.slice a' es.length cp)).setCell ⟨w.heap.size,1,none⟩ (.int .i64 (M:Nat))):=
     Only.setCell (Only.setCell (Only.refl (fun k=>k=w.heap.size) w4) (p:=⟨w.heap.size,0,none⟩) (.inl rfl) _) (p:=⟨w.heap.size,1,none⟩) (.inl rfl) _
    refine bodyPost_ret (v:=.tuple #[.slice (some ⟨g,0,none⟩) N N,.agg #[.slice a' es.length cp,.int .i64 (M:Nat)],.nilIface]) (by simp [results,Tryz.results106,go_sem,x0,x1]) rfl ⟨?_,.inl ⟨ts,M,U,g,a',cp,HRS.out,?_,?_,by rw [HES.out,HNE.out]⟩⟩
    ·have h0:=HF.out.1
     repeat (first | exact h0 | refine Only.setCell ?_ (.inr (by simp)) _)
    ·rw [←HNE.out]
     exact (HF.out.2.1.mono (by omega)).only hO9 (by omega)
    ·rw [HES.out]
     exact (HF.out.2.2.only hO9 (fun b h1 _=>by omega)).mono (by omega) hO9.size
   ·have HNO:Hid (¬∃ ts M U,RdS n V m ts M U):=by
     rintro ⟨ts,M,U,-,⟨h1,-⟩ | ⟨-,E,h1,-⟩⟩
     ·exact hm2 h1
     ·exact hno ⟨ts,E,M,by rw [HNE.out];exact h1⟩
    have hA4:AnO R w w4:=AnO.step HA3.out ho4 hRl
    have HON:Hid (Only (fun k=>k=R) w w4):=hA4.on
    obtain ⟨x0,x1,y0,y1,hlt4,_⟩:=hA4
    clear ho4 hno HA3
    go_wp2
    refine bodyPost_ret (v:=.tuple #[v,.agg #[.slice z l c,.int .i64 M],.iface T x]) (by simp [results,Tryz.results106,go_sem,x0,x1]) rfl ⟨?_,.inr ⟨HNO.out,_,_,_,_,_,_,_,rfl⟩⟩
    have h0:=HON.out
    repeat (first | exact h0 | refine Only.setCell ?_ (.inr (by simp)) _)
 ·have HNO:Hid (¬∃ ts M U,RdS n V m ts M U):=fun ⟨ts,M,U,h,_⟩=>c8 h
  have HG8:=hrd1.no 8 (by omega) (by omega) (hS.f.s0.below hbl1 (by omega)) (hS.f.s1.below hbl1 (by omega)) (by omega)
  clear hb hB hz hS hBW hbel hR hA1 hrd1 hbl1
  go_enter Tryz.func106,Tryz.ntmps106
  go_wp2_with fail
  refine HG8.mono ?_
  clear HG8
  rintro e w3 ⟨⟨T,y,rfl⟩,m3,rfl⟩
  have hA4:AnO R w _:=AnO.step HA1.out ((Only.refl _ _).drewN m3) hRl
  clear HA1
  generalize (w.alloc (Obj.cells #[.slice none 0 0,.int .i64 0] 40)).drewN m3=w4 at *
  have HON:Hid (Only (fun k=>k=R) w w4):=hA4.on
  obtain ⟨x0,x1,y0,y1,hlt4,_⟩:=hA4
  go_wp2
  refine bodyPost_ret (v:=.tuple #[.slice none 0 0,.agg #[.slice none 0 0,.int .i64 0],.iface T y]) (by simp [results,Tryz.results106,go_sem,x0,x1]) rfl ⟨?_,.inr ⟨HNO.out,_,_,_,_,_,_,_,rfl⟩⟩
  have h0:=HON.out
  repeat (first | exact h0 | refine Only.setCell ?_ (.inr (by simp)) _)
theorem Reads.rng {ls cs:List Int} {n v p:Nat} {q:List Int} {E:Nat} (h:Reads ls cs n v p q E):∀ s ∈ q,0≤s∧s<ls.length:=by
 induction h with
 | nil=>simp
 | snoc h ho ih=>
  intro s hs
  simp only [List.mem_append,List.mem_cons,List.not_mem_nil,or_false] at hs
  rcases hs with hs | rfl
  ·exact ih s hs
  ·have:=ho.2.2.2.1
   omega
theorem so_rngL {T:List Int} {L:Nat} (hT:Gd T L) (hL:1≤L) (v E:Nat):∀ i,∀ z ∈ so T v E i,0≤z∧z<(L:Int):=by
 intro i
 induction i with
 | zero=>intro z hz;simp [so] at hz
 | succ i ih=>
  intro z hz
  rw [so] at hz
  simp only [List.mem_append,List.mem_cons,List.not_mem_nil,or_false] at hz
  rcases hz with hz | rfl
  ·exact ih z hz
  ·cases hq:sg T v E i with
   | none=>simp;omega
   | some q=>
    obtain ⟨s0,e0⟩:=q
    obtain ⟨s,b,z,k1,_,_,k4,_⟩:=hT.cell s0 (sg_rng hT v E i s0 e0 hq).1
    simp only
    rw [k1]
    omega
theorem RdS.rng {n V m:Nat} {ts:List Int} {M U:Nat} (h:RdS n V m ts M U):(∀ s ∈ ts,0≤s∧s<40)∧ts.length=bt V 0 8:=by
 obtain ⟨-,⟨hm,E,⟨res,q,hg,hl,hr⟩,-⟩ | ⟨hm,E,h1,h2,rfl⟩⟩:=h
 ·have h40:=(gi_yes n V 40 40 8 [] false res q (by simp) (by simp) hg.1).2.1
  refine ⟨fun s hs=>?_,hl⟩
  have:=hr.rng s hs
  omega
 ·obtain ⟨hg,-,-,-,-,-,rfl⟩:=h1
  have hgd:=gd_tb (got_normB (by omega) (by omega) hg)
  rw [gXs_len] at hgd
  exact ⟨so_rngL hgd (by omega) _ _ _,so_len _ _ _ _⟩
theorem top_bitW :∀ t,t<256→0<t→∃ b,b<8∧2 ^ b≤t∧t<2 ^ (b+1):=by
 intro t h1 h2
 refine ⟨Nat.log2 t,?_,Nat.log2_self_le (by omega),Nat.lt_log2_self⟩
 have:Nat.log2 t<8:=(Nat.log2_lt (by omega)).2 h1
 exact this
def wid (s:Int):Nat:=if 28≤s then (s-28).toNat else if 16≤s then (s-16).toNat else 4
theorem wid_le {s:Int} (h:s<40):wid s≤11:=by unfold wid;split <;> (try split) <;> omega
def uq (N V:Nat):List Int→Nat→List Int→Nat→List (List Int × Int × Int)→Option (List (List Int × Int × Int) × Nat × List Int × Nat)
 | [],p,lits,L,out=>some (out,p,lits,L)
 | s :: t,p,lits,L,out=>
  if N<p+wid s∨¬(0<L↔28≤s) then none
  else if s<16 then uq N V t (p+4) (lits++[16*s+(bt V p 4:Nat)]) L out
  else if s<28 then uq N V t (p+wid s) lits (2 ^ wid s+bt V p (wid s)+2) out
  else uq N V t (p+wid s) [] 0 (out++[(lits,(L:Int),((2 ^ wid s+bt V p (wid s):Nat):Int))])
def uqE (N:Nat):Option (List (List Int × Int × Int) × Nat × List Int × Nat)→Option (List (List Int × Int × Int))
 | none=>none
 | some (out,p,lits,L)=>if p=N∧L=0 then some (if lits=[] then out else out++[(lits,0,0)]) else none
def uqF (N V:Nat) (ts:List Int):Option (List (List Int × Int × Int)):=uqE N (uq N V ts 0 [] 0 [])
theorem uq_bad {N V:Nat} {s:Int} {t:List Int} {p L:Nat} {lits:List Int} {out:List (List Int × Int × Int)} (h:N<p+wid s∨¬(0<L↔28≤s)):uq N V (s :: t) p lits L out=none:=by simp only [uq];rw [if_pos h]
theorem uq_let {N V:Nat} {s:Int} {t:List Int} {p L:Nat} {lits:List Int} {out:List (List Int × Int × Int)} (h1:p+4≤N) (hL:L=0) (hs:s<16):uq N V (s :: t) p lits L out=uq N V t (p+4) (lits++[16*s+(bt V p 4:Nat)]) L out:=by
 have hw:wid s=4:=by unfold wid;rw [if_neg (by omega),if_neg (by omega)]
 simp only [uq]
 rw [if_neg (by rw [hw];omega),if_pos hs]
theorem uq_len {N V:Nat} {s:Int} {t:List Int} {p L:Nat} {lits:List Int} {out:List (List Int × Int × Int)} (h1:p+wid s≤N) (hL:L=0) (hs:16≤s) (hs2:s<28):uq N V (s :: t) p lits L out=uq N V t (p+wid s) lits (2 ^ wid s+bt V p (wid s)+2) out:=by
 simp only [uq]
 rw [if_neg (by omega),if_neg (by omega),if_pos hs2]
theorem uq_dst {N V:Nat} {s:Int} {t:List Int} {p L:Nat} {lits:List Int} {out:List (List Int × Int × Int)} (h1:p+wid s≤N) (hL:0<L) (hs:28≤s):uq N V (s :: t) p lits L out=uq N V t (p+wid s) [] 0 (out++[(lits,(L:Int),((2 ^ wid s+bt V p (wid s):Nat):Int))]):=by
 simp only [uq]
 rw [if_neg (by omega),if_neg (by omega),if_neg (by omega)]
theorem pow_wid {s:Int} (h:s<40):2 ^ wid s≤2048:=by
 have:=Nat.pow_le_pow_right (show 0<2 by omega) (wid_le h)
 simpa using this
theorem Ins.tail {w:World} {b off:Nat} {z:Int} {zs:List Int} (h:Ins w (some ⟨b,off,none⟩) (z :: zs)):Ins w (some ⟨b,off+1,none⟩) zs:=by
 refine ⟨fun y hy=>h.1 y (List.mem_cons_of_mem _ hy),fun hp=>?_⟩
 obtain ⟨b',o',he,hlt,hc⟩:=h.2 (by simp)
 obtain ⟨rfl,rfl⟩:b=b'∧off=o':=by simpa using he
 refine ⟨b,off+1,rfl,hlt,fun j hj=>?_⟩
 have:=hc (j+1) (by simpa using hj)
 rw [show off+1+j=off+(j+1) by omega]
 simpa using this
theorem or_letter (s:Int) (y:Nat) (hs:0≤s∧s<16) (hy:y<2 ^ 4):bits BinOp.or IntKind.i64 (s*16) (y:Int) % 256=16*s+(y:Nat):=by
 obtain ⟨n,rfl⟩:=Int.eq_ofNat_of_zero_le hs.1
 have e:(n:Int)*16=((n*16:Nat):Int):=by omega
 rw [e,i64_or_nat _ _ (by omega) (by omega)]
 have h1:n*16 ||| y=n*16+y:=by
  have:=Nat.two_pow_add_eq_or_of_lt hy n
  rw [show n*16=2 ^ 4*n by omega]
  exact this.symm
 rw [h1]
 omega
theorem wpowU (k:Nat) (h:k≤12):wrap64 (2 ^ k)=((2 ^ k:Nat):Int):=by
 have h2:2 ^ k≤2 ^ 12:=Nat.pow_le_pow_right (by omega) h
 have e:((2:Int) ^ k)=((2 ^ k:Nat):Int):=by simp
 rw [e]
 generalize 2 ^ k=P at *
 exact IntWalk.wrap64_in _ (by omega)
def SR (w0 w:World) (B Q R:Nat) (rest:List Int):Prop:=∃ (la:Option Addr) (lc:Nat),w.heap[Q]?=some (.cells #[.slice la rest.length lc,.pointer (some ⟨R,0,none⟩)] 111 (0,0))∧Ins w0 la rest∧rest.length≤lc∧B≤Q
theorem SR.only {S:Nat→Prop} {w0 w w':World} {B Q R:Nat} {rest:List Int} (h:SR w0 w B Q R rest) (ho:Only S w w') (hs:¬S Q):SR w0 w' B Q R rest:=by
 obtain ⟨la,lc,h1,h2⟩:=h
 exact ⟨la,lc,(ho.block Q (Array.getElem?_eq_some_iff.1 h1).1 hs).trans h1,h2⟩
theorem SR.ne {w0 w:World} {B Q R:Nat} {rest:List Int} {a:Option Addr} {L cx N p:Nat} (h:SR w0 w B Q R rest) (hr:RD w B R a L cx N p):¬Q=R:=by
 obtain ⟨la,lc,h1,h2⟩:=h
 rintro rfl
 have:=h1.symm.trans hr.1
 simp at this
theorem SR.set {w0 w:World} {B Q R:Nat} {la la2:Option Addr} {k lc:Nat} {rest:List Int} {lc2:Nat} (h:w.heap[Q]?=some (.cells #[.slice la k lc,.pointer (some ⟨R,0,none⟩)] 111 (0,0))) (hi:Ins w0 la2 rest) (hl:rest.length≤lc2) (hB:B≤Q):SR w0 (w.setCell ⟨Q,0,none⟩ (.slice la2 rest.length lc2)) B Q R rest:=by
 refine ⟨la2,lc2,?_,hi,hl,hB⟩
 rw [heap_setCell_same _ Q 0 _ _ _ h]
 simp
theorem ins_nilU (w:World) (a:Option Addr):Ins w a []:=⟨by simp,fun h=>by simp at h⟩
theorem letter_yes (B Q R:Nat) (s:Int) (t:List Int) (x:Option Addr) (cx:Nat) (zs:List Int) (N V p:Nat) (w0 w:World) (hB:w0.heap.size=B) (hbel:Below B w0 w) (hS:SR w0 w B Q R (s :: t)) (hR:RD w B R x zs.length cx N p) (hb:Byt w0 x zs) (hz:zs=enc N V) (hN:N≤4096) (hp:p+4≤N) (hs:0≤s∧s<16) :
  Calls Tryz.prog 82 #[.pointer (some ⟨Q,0,none⟩)] w fun e w'=>e=.returned (.tuple #[.int .u8 (16*s+(bt V p 4:Nat)),.nilIface])∧SR w0 w' B Q R t∧RD w' B R x zs.length cx N (p+4)∧Only (fun b=>b=Q∨b=R) w w':=by
 have hne:=hS.ne hR
 have HC:=hR.yes V 4 (by omega) (hb.below hbel (by omega)) hz (by omega) (by omega) (by omega)
 obtain ⟨la,lc,h1,h2,h3,h4⟩:=hS
 obtain ⟨ab,ao,rfl,hab,hac⟩:=h2.2 (by simp)
 have hc:=hac 0 (by simp)
 simp only [List.getD_cons_zero,Nat.add_zero] at hc
 have HI:Hid (Ins w0 (some ⟨ab,ao,none⟩) (s :: t)):=h2
 simp only [List.length_cons] at h1 h3
 have HC0:Hid (w0.cell? ⟨ab,ao,none⟩=some (.int .i64 s)):=hc
 have hbt:=bt_lt V p 4
 have hRB:=hR.2.1
 have HOR:Hid (bits BinOp.or IntKind.i64 (s*16) ((bt V p 4:Nat):Int) % 256=16*s+(bt V p 4:Nat)∧True):=⟨or_letter s _ hs hbt,trivial⟩
 have HWB:Hid (Below B w0 w∧RD w B R x zs.length cx N p):=⟨hbel,hR⟩
 have HTL:Hid (∃ k,t.length=k):=⟨_,rfl⟩
 obtain ⟨k,hk⟩:=HTL.out
 rw [hk] at h1 h3
 have HK:Hid (t.length=k):=hk
 have HH:Hid (w.heap[Q]?=some (.cells #[.slice (some ⟨ab,ao,none⟩) (k+1) lc,.pointer (some ⟨R,0,none⟩)] 111 (0,0))):=h1
 have c0:w.cell? ⟨Q,0,none⟩=some (.slice (some ⟨ab,ao,none⟩) (k+1) lc):=cellRR (j:=0) h1 rfl
 have c1:w.cell? ⟨Q,1,none⟩=some (.pointer (some ⟨R,0,none⟩)):=cellRR (j:=1) h1 rfl
 clear hR hb hz hac hc h2 hbel h1 hk HTL
 go_enter Tryz.func82,Tryz.ntmps82
 go_wp2_with fail
 refine HC.mono ?_
 clear HC c0 c1
 rintro e w2 ⟨rfl,hrd2,hon2,hb2⟩
 have hxe:V / 2 ^ p % 2 ^ (4:Int).toNat=bt V p 4:=rfl
 rw [hxe]
 have HH2:Hid (w2.heap[Q]?=some (.cells #[.slice (some ⟨ab,ao,none⟩) (k+1) lc,.pointer (some ⟨R,0,none⟩)] 111 (0,0))):=(hon2.block Q (Array.getElem?_eq_some_iff.1 HH.out).1 hne).trans HH.out
 have HS2:Hid (RD w2 B R x zs.length cx N (p+4)∧Only (fun b=>b=R) w w2):=⟨hrd2,hon2⟩
 have c0:w2.cell? ⟨Q,0,none⟩=some (.slice (some ⟨ab,ao,none⟩) (k+1) lc):=cellRR (j:=0) HH2.out rfl
 have f0:w2.frozen? ⟨Q,0,none⟩=false:=frozen_of_row w2 Q 0 _ _ HH2.out
 have hc2:w2.cell? ⟨ab,ao,none⟩=some (.int .i64 s):=keep (HWB.out.1.trans hb2) (by omega) HC0.out
 clear hrd2 hon2 hb2 hxe HH
 generalize hyy:bt V p 4=y at *
 have HYE:Hid (bt V p 4=y∧True):=⟨hyy,trivial⟩
 clear hyy
 have HFIN:Hid (∀ la2 lc2,Ins w0 la2 t→k≤lc2→SR w0 (w2.setCell ⟨Q,0,none⟩ (.slice la2 k lc2)) B Q R t∧RD (w2.setCell ⟨Q,0,none⟩ (.slice la2 k lc2)) B R x zs.length cx N (p+4)∧Only (fun b=>b=Q∨b=R) w (w2.setCell ⟨Q,0,none⟩ (.slice la2 k lc2))):=by
  intro la2 lc2 hi hl
  have h9:=SR.set (w0:=w0) (B:=B) (lc2:=lc2) HH2.out hi (by rw [HK.out];exact hl) h4
  rw [HK.out] at h9
  refine ⟨h9,HS2.out.1.only (Only.setCell (Only.refl (fun b=>b=Q) w2) (p:=⟨Q,0,none⟩) (.inl rfl) _) (fun h=>hne h.symm),?_⟩
  exact Only.setCell (HS2.out.2.mono (fun b _ hb=>.inr hb)) (p:=⟨Q,0,none⟩) (.inl (.inl rfl)) _
 by_cases hl1:lc=1
 ·subst hl1
  have hk0:k=0:=by omega
  subst hk0
  have ht0:t=[]:=List.eq_nil_of_length_eq_zero HK.out
  go_wp2
  exact bodyPost_ret (v:=.tuple #[.int .u8 (16*s+(y:Nat)),.nilIface]) (by simp [results,Tryz.results82,go_sem,HOR.out.1]) rfl ⟨by rw [HYE.out.1],HFIN.out _ _ (by rw [ht0];exact ins_nilU _ _) (by omega)⟩
 ·go_wp2
  exact bodyPost_ret (v:=.tuple #[.int .u8 (16*s+(y:Nat)),.nilIface]) (by simp [results,Tryz.results82,go_sem,HOR.out.1]) rfl ⟨by rw [HYE.out.1],HFIN.out _ _ HI.out.tail (by omega)⟩
theorem letter_no (B Q R:Nat) (rest:List Int) (x:Option Addr) (cx:Nat) (zs:List Int) (N p:Nat) (w0 w:World) (hB:w0.heap.size=B) (hbel:Below B w0 w) (hS:SR w0 w B Q R rest) (hR:RD w B R x zs.length cx N p) (hN:N≤4096) (hpN:p≤N) (hp:¬p+4≤N) (s0:Sent w0 5) (s1:Sent w0 11) (hG:5<B∧11<B) :
  Calls Tryz.prog 82 #[.pointer (some ⟨Q,0,none⟩)] w fun e w'=>(∃ T y,e=.returned (.tuple #[.int .u8 0,.iface T y]))∧∃ m,w'=w.drewN m:=by
 have HC:=hR.no 4 (by omega) (by omega) (s0.below hbel hG.1) (s1.below hbel hG.2) (by omega)
 obtain ⟨la,lc,h1,h2,h3,h4⟩:=hS
 have c0:w.cell? ⟨Q,0,none⟩=some (.slice la rest.length lc):=cellRR (j:=0) h1 rfl
 have c1:w.cell? ⟨Q,1,none⟩=some (.pointer (some ⟨R,0,none⟩)):=cellRR (j:=1) h1 rfl
 clear hR h1 h2 s0 s1 hbel
 go_enter Tryz.func82,Tryz.ntmps82
 go_wp2_with fail
 refine HC.mono ?_
 clear HC c0 c1
 rintro e w2 ⟨⟨T,y,rfl⟩,m,rfl⟩
 go_wp2
 exact bodyPost_ret (v:=.tuple #[.int .u8 0,.iface T y]) (by simp [results,Tryz.results82,go_sem]) rfl ⟨⟨T,y,rfl⟩,m,rfl⟩
theorem number_yes (B Q R:Nat) (s:Int) (t:List Int) (x:Option Addr) (cx:Nat) (zs:List Int) (N V p:Nat) (w0 w:World) (hB:w0.heap.size=B) (hbel:Below B w0 w) (hS:SR w0 w B Q R (s :: t)) (hR:RD w B R x zs.length cx N p) (hb:Byt w0 x zs) (hz:zs=enc N V) (hN:N≤4096) (f:Int) (hf:f=16∨f=28) (hs:f≤s∧s<f+12) (hp:p+(s-f).toNat≤N) :
  Calls Tryz.prog 83 #[.pointer (some ⟨Q,0,none⟩),.int .i64 f] w fun e w'=>e=.returned (.tuple #[.int .i64 ((2 ^ (s-f).toNat+bt V p (s-f).toNat:Nat):Int),.nilIface])∧SR w0 w' B Q R t∧RD w' B R x zs.length cx N (p+(s-f).toNat)∧Only (fun b=>b=Q∨b=R) w w':=by
 have hne:=hS.ne hR
 have HC:=hR.yes V (s-f) (by omega) (hb.below hbel (by omega)) hz (by omega) (by omega) (by omega)
 obtain ⟨la,lc,h1,h2,h3,h4⟩:=hS
 obtain ⟨ab,ao,rfl,hab,hac⟩:=h2.2 (by simp)
 have hc:=hac 0 (by simp)
 simp only [List.getD_cons_zero,Nat.add_zero] at hc
 have HI:Hid (Ins w0 (some ⟨ab,ao,none⟩) (s :: t)):=h2
 simp only [List.length_cons] at h1 h3
 have HC0:Hid (w0.cell? ⟨ab,ao,none⟩=some (.int .i64 s)):=hc
 have hbt:=bt_lt V p (s-f).toNat
 have hRB:=hR.2.1
 have HOR:Hid (wrap64 (wrap64 (2 ^ (s-f).toNat)+((bt V p (s-f).toNat:Nat):Int))=((2 ^ (s-f).toNat+bt V p (s-f).toNat:Nat):Int)∧True):=by
  refine ⟨?_,trivial⟩
  rw [wpowU _ (by omega)]
  have hpw:2 ^ (s-f).toNat≤2 ^ 11:=Nat.pow_le_pow_right (by omega) (by omega)
  generalize 2 ^ (s-f).toNat=P at *
  generalize bt V p (s-f).toNat=y at *
  rw [IntWalk.wrap64_in _ (by omega)]
  omega
 have HWB:Hid (Below B w0 w∧RD w B R x zs.length cx N p):=⟨hbel,hR⟩
 have HTL:Hid (∃ k,t.length=k):=⟨_,rfl⟩
 obtain ⟨k,hk⟩:=HTL.out
 rw [hk] at h1 h3
 have HK:Hid (t.length=k):=hk
 have HH:Hid (w.heap[Q]?=some (.cells #[.slice (some ⟨ab,ao,none⟩) (k+1) lc,.pointer (some ⟨R,0,none⟩)] 111 (0,0))):=h1
 have c0:w.cell? ⟨Q,0,none⟩=some (.slice (some ⟨ab,ao,none⟩) (k+1) lc):=cellRR (j:=0) h1 rfl
 have c1:w.cell? ⟨Q,1,none⟩=some (.pointer (some ⟨R,0,none⟩)):=cellRR (j:=1) h1 rfl
 clear hR hb hz hac hc h2 hbel h1 hk HTL
 have hcw:w.cell? ⟨ab,ao,none⟩=some (.int .i64 s):=keep HWB.out.1 (by omega) HC0.out
 go_enter Tryz.func83,Tryz.ntmps83
 go_wp2_with fail
 refine HC.mono ?_
 clear HC c0 c1
 rintro e w2 ⟨rfl,hrd2,hon2,hb2⟩
 have hxe:V / 2 ^ p % 2 ^ (s-f).toNat=bt V p (s-f).toNat:=rfl
 rw [hxe]
 have HH2:Hid (w2.heap[Q]?=some (.cells #[.slice (some ⟨ab,ao,none⟩) (k+1) lc,.pointer (some ⟨R,0,none⟩)] 111 (0,0))):=(hon2.block Q (Array.getElem?_eq_some_iff.1 HH.out).1 hne).trans HH.out
 have HS2:Hid (RD w2 B R x zs.length cx N (p+(s-f).toNat)∧Only (fun b=>b=R) w w2):=⟨hrd2,hon2⟩
 have c0:w2.cell? ⟨Q,0,none⟩=some (.slice (some ⟨ab,ao,none⟩) (k+1) lc):=cellRR (j:=0) HH2.out rfl
 have f0:w2.frozen? ⟨Q,0,none⟩=false:=frozen_of_row w2 Q 0 _ _ HH2.out
 have hc2:w2.cell? ⟨ab,ao,none⟩=some (.int .i64 s):=keep (HWB.out.1.trans hb2) (by omega) HC0.out
 clear hrd2 hon2 hb2 hxe HH
 generalize hyy:bt V p (s-f).toNat=y at *
 have HYE:Hid (bt V p (s-f).toNat=y∧True):=⟨hyy,trivial⟩
 clear hyy
 have HFIN:Hid (∀ la2 lc2,Ins w0 la2 t→k≤lc2→SR w0 (w2.setCell ⟨Q,0,none⟩ (.slice la2 k lc2)) B Q R t∧RD (w2.setCell ⟨Q,0,none⟩ (.slice la2 k lc2)) B R x zs.length cx N (p+(s-f).toNat)∧Only (fun b=>b=Q∨b=R) w (w2.setCell ⟨Q,0,none⟩ (.slice la2 k lc2))):=by
  intro la2 lc2 hi hl
  have h9:=SR.set (w0:=w0) (B:=B) (lc2:=lc2) HH2.out hi (by rw [HK.out];exact hl) h4
  rw [HK.out] at h9
  refine ⟨h9,HS2.out.1.only (Only.setCell (Only.refl (fun b=>b=Q) w2) (p:=⟨Q,0,none⟩) (.inl rfl) _) (fun h=>hne h.symm),?_⟩
  exact Only.setCell (HS2.out.2.mono (fun b _ hb=>.inr hb)) (p:=⟨Q,0,none⟩) (.inl (.inl rfl)) _
 by_cases hl1:lc=1
 ·subst hl1
  have hk0:k=0:=by omega
  subst hk0
  have ht0:t=[]:=List.eq_nil_of_length_eq_zero HK.out
  go_wp2
  exact bodyPost_ret (v:=.tuple #[.int .i64 ((2 ^ (s-f).toNat+y:Nat):Int),.nilIface]) (by simp [results,Tryz.results83,go_sem,HOR.out.1]) rfl ⟨by rw [HYE.out.1],HFIN.out _ _ (by rw [ht0];exact ins_nilU _ _) (by omega)⟩
 ·go_wp2
  exact bodyPost_ret (v:=.tuple #[.int .i64 ((2 ^ (s-f).toNat+y:Nat):Int),.nilIface]) (by simp [results,Tryz.results83,go_sem,HOR.out.1]) rfl ⟨by rw [HYE.out.1],HFIN.out _ _ HI.out.tail (by omega)⟩
theorem number_no (B Q R:Nat) (rest:List Int) (x:Option Addr) (cx:Nat) (zs:List Int) (N p:Nat) (w0 w:World) (hB:w0.heap.size=B) (hbel:Below B w0 w) (hS:SR w0 w B Q R rest) (hR:RD w B R x zs.length cx N p) (hN:N≤4096) (hpN:p≤N) (f:Int) (hf:f=16∨f=28) (hr:∀ z ∈ rest,0≤z∧z<40) (hp:∀ s t,rest=s :: t→f≤s∧s<f+12→¬p+(s-f).toNat≤N) (s0:Sent w0 5) (s1:Sent w0 11) (s2:Sent w0 7) (hG:5<B∧11<B∧7<B) :
  Calls Tryz.prog 83 #[.pointer (some ⟨Q,0,none⟩),.int .i64 f] w fun e w'=>(∃ T y,e=.returned (.tuple #[.int .i64 0,.iface T y]))∧∃ m,w'=w.drewN m:=by
 obtain ⟨la,lc,h1,h2,h3,h4⟩:=hS
 have c0:w.cell? ⟨Q,0,none⟩=some (.slice la rest.length lc):=cellRR (j:=0) h1 rfl
 have c1:w.cell? ⟨Q,1,none⟩=some (.pointer (some ⟨R,0,none⟩)):=cellRR (j:=1) h1 rfl
 have HE:Hid (Sent w0 5∧Sent w0 11∧RD w B R x zs.length cx N p∧Below B w0 w):=⟨s0,s1,hR,hbel⟩
 obtain ⟨T9,y9,he9⟩:=s2.below hbel hG.2.2
 cases rest with
 | nil=>
  clear hr hp h1 h2 s0 s1 s2 hR hbel
  simp only [List.length_nil] at c0
  go_enter Tryz.func83,Tryz.ntmps83
  go_wp2
  go_quiet (fail)
  go_wp2
  exact bodyPost_ret (v:=.tuple #[.int .i64 0,.iface T9 y9]) (by simp [results,Tryz.results83,go_sem]) rfl ⟨⟨_,_,rfl⟩,_,rfl⟩
 | cons s t=>
  obtain ⟨ab,ao,rfl,hab,hac⟩:=h2.2 (by simp)
  have hc0:=hac 0 (by simp)
  simp only [List.getD_cons_zero,Nat.add_zero] at hc0
  have hc:=keep hbel (by omega) hc0
  have hsr:=hr s (by simp)
  have hp':=hp s t rfl
  simp only [List.length_cons] at c0
  clear hr hp h1 h2 s0 s1 s2 hR hbel hac hc0
  generalize t.length=k at *
  by_cases hlo:f≤s
  ·by_cases hhi:s<f+12
   ·have hno:=hp' ⟨hlo,hhi⟩
    have HC:=HE.out.2.2.1.no (s-f) (by omega) (by omega) (HE.out.1.below HE.out.2.2.2 hG.1) (HE.out.2.1.below HE.out.2.2.2 hG.2.1) (by omega)
    clear hp'
    go_enter Tryz.func83,Tryz.ntmps83
    go_wp2_with fail
    refine HC.mono ?_
    clear HC c0 c1
    rintro e w2 ⟨⟨T,y,rfl⟩,m,rfl⟩
    go_wp2
    exact bodyPost_ret (v:=.tuple #[.int .i64 0,.iface T y]) (by simp [results,Tryz.results83,go_sem]) rfl ⟨⟨T,y,rfl⟩,m,rfl⟩
   ·clear hp'
    go_enter Tryz.func83,Tryz.ntmps83
    go_wp2
    go_quiet (fail)
    go_wp2
    exact bodyPost_ret (v:=.tuple #[.int .i64 0,.iface T9 y9]) (by simp [results,Tryz.results83,go_sem]) rfl ⟨⟨_,_,rfl⟩,_,rfl⟩
  ·clear hp'
   go_enter Tryz.func83,Tryz.ntmps83
   go_wp2
   go_quiet (fail)
   go_wp2
   exact bodyPost_ret (v:=.tuple #[.int .i64 0,.iface T9 y9]) (by simp [results,Tryz.results83,go_sem]) rfl ⟨⟨_,_,rfl⟩,_,rfl⟩
theorem atLetter_any (B Q R:Nat) (rest:List Int) (w0 w:World) (hB:w0.heap.size=B) (hbel:Below B w0 w) (hS:SR w0 w B Q R rest) (hr:∀ z ∈ rest,0≤z∧z<40) :
  Calls Tryz.prog 81 #[.pointer (some ⟨Q,0,none⟩)] w fun e w'=>e=.returned (.bool (decide (0<rest.length∧rest.getD 0 0<16)))∧w'=w:=by
 obtain ⟨la,lc,h1,h2,h3,h4⟩:=hS
 have c0:w.cell? ⟨Q,0,none⟩=some (.slice la rest.length lc):=cellRR (j:=0) h1 rfl
 cases rest with
 | nil=>
  simp only [List.length_nil] at c0
  go_enter Tryz.func81,Tryz.ntmps81
  go_wp2
  go_ret
  exact ⟨by simp,rfl⟩
 | cons s t=>
  obtain ⟨ab,ao,rfl,hab,hac⟩:=h2.2 (by simp)
  have hc0:=hac 0 (by simp)
  simp only [List.getD_cons_zero,Nat.add_zero] at hc0
  have hc:=keep hbel (by omega) hc0
  have hsr:=hr s (by simp)
  simp only [List.length_cons] at c0
  have HG:Hid (decide (0<(s :: t).length∧(s :: t).getD 0 0<16)=decide (s<16)):=by simp [Hid]
  clear hr h1 h2 hac hc0
  rw [HG.out]
  generalize t.length=k at *
  go_enter Tryz.func81,Tryz.ntmps81
  go_wp2
  go_ret
  exact ⟨by simp,rfl⟩
end Go.Proofs.YtfeokafkhnbdiaaGreatDoor
