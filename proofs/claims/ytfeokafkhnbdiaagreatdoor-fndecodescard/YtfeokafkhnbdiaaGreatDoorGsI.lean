/- Lemmas on the way. -/
import Derived.Test.YtfeokafkhnbdiaaGreatDoorNGet
import Derived.Test.YtfeokafkhnbdiaaGreatDoorSy1
import Derived.Test.YtfeokafkhnbdiaaGreatDoorLPut
import Derived.BigQuiet
set_option maxRecDepth 20000
set_option maxHeartbeats 16000000
namespace Go.Proofs.YtfeokafkhnbdiaaGreatDoor
open Go.RowKit
set_option linter.unusedVariables false
def gotN (n V p s:Nat):Prop:=good n V p s∧(gL V p s).1=0
theorem below_dQ {B:Nat} {a b:World} (h:Below B a b) (n:Nat):Below B a (b.drewN n):=⟨h.os,h.tape,h.output,h.size,h.block⟩
/-- With the frame: nothing but the reader is written. -/
theorem getNorm_fr (R B:Nat) (a:Option Addr) (cap:Nat) (zs:List Int) (n V p s:Nat) (w0 w:World) (hb:Byt w0 a zs) (hB:w0.heap.size=B) (hbel:Below B w0 w) (hz:zs=enc n V) (hn:n≤4096) (hR:RD w B R a zs.length cap n p) (hp:p≤n) (hs:s≤80)
  (s0:Sent w0 5) (s1:Sent w0 11) (s2:Sent w0 9) (hG:5<B∧11<B∧9<B) :
  Calls Tryz.prog 156 #[.pointer (some ⟨R,0,none⟩),.int .i64 s] w fun e w'=>Below B w0 w' ∧
   (gotN n V p s→e=.returned (.tuple #[.slice (some ⟨w.heap.size,0,none⟩) s s,.nilIface])∧OwI w' B w.heap.size s (gXs V p s)∧RD w' B R a zs.length cap n (gL V p s).2) ∧
   (¬gotN n V p s→∃ T x v,e=.returned (.tuple #[v,.iface T x]))∧Only (fun k=>k=R) w w':=by
 obtain ⟨i0,hi,hz0,hz1,hz2⟩:=info_parts Tryz.infoI64
 have hBw:B≤w.heap.size:=hR.2.2
 have hRw:R<w.heap.size:=(Array.getElem?_eq_some_iff.1 hR.1).1
 have HR:Hid (RD w B R a zs.length cap n p):=hR
 have HZ:Hid (zs=enc n V):=hz
 have HXR:Hid _:=gXs_rng V p s
 have HXL:Hid _:=gXs_len V p s
 clear hR hz
 go_enter Tryz.func156,Tryz.ntmps156
 go_wp2_with (at_make;refine wpList_make_full _ rfl _ _ 38 rfl w.heap.size 3 i0 (.int .i64 0) 1 Tryz.underlying38 hi hz0 hz1 .i64 .i64 _ _ s rfl rfl rfl rfl (by rw [hz2];omega) (by unfold maxLen;omega) nl ?_;intro w1 hown hgrow)
 have h0:OwI w1 w.heap.size w.heap.size s (part (gXs V p s) 0):=by
  rw [part_zero,gXs_len]
  refine ⟨?_,by intro z hz;simp at hz;omega⟩
  rw [made_zeroI] at hown
  simpa using hown
 have hbw:Below w.heap.size w w1:=(Below.refl _ _).grown hgrow nl (by intro k hk;cases hk)
 have H0:Hid (OwI w1 w.heap.size w.heap.size s (part (gXs V p s) 0)):=h0
 have HB1:Hid (Below B w0 w1):=hbel.trans (hbw.mono hBw)
 have HON1:Hid (Only (fun k=>k=R) w w1):=Only.ofBelow hbw nl
 have HR1:Hid (RD w1 B R a zs.length cap n p):=HR.out.only (Only.ofBelow (S:=fun _=>False) hbw nl) (by simp)
 clear h0 hown hgrow hi hz0 hz1 hz2 hbw hbel HR
 go_loopw [7,15] (fun l i wr=>∃ k:Nat,k≤s∧i=.int .i64 k∧l=.int .i64 ((gL V p k).1:Nat)∧good n V p k∧OwI wr w.heap.size w.heap.size s (part (gXs V p s) k)∧RD wr B R a zs.length cap n (gL V p k).2∧Below B w0 wr∧Only (fun k=>k=R) w wr) (fun _ i _=>s-(intOf i).toNat)
 case atStart=>exact ⟨0,Nat.zero_le _,rfl,rfl,fun j hj=>by omega,H0.out,HR1.out,HB1.out,HON1.out⟩
 case round=>
  clear H0 HR1 HB1 HON1
  obtain ⟨k,hk,rfl,rfl,hgood,hown,hrd,hbel,hon⟩:=hrel
  have HON:Hid (Only (fun k=>k=R) w wr):=hon
  clear hon
  have HGD:Hid (good n V p k):=hgood
  have HO:Hid (OwI wr w.heap.size w.heap.size s (part (gXs V p s) k)):=hown
  have HRD:Hid (RD wr B R a zs.length cap n (gL V p k).2):=hrd
  have hq:=good_pos hp hgood
  clear hgood hown hrd
  by_cases hlt:k<s
  ·have hl:=gL_le V p k
   have hb7:=bl_le7 _ hl
   have HXG:Hid ((gXs V p s).getD k 0=(gX V p k:Nat)):=gXs_get V p s k hlt
   have HX:Hid (gX V p k=V / 2 ^ (gL V p k).2 % 2 ^ bl (gL V p k).1):=rfl
   have hx:=gX_lt V p k
   have HBS:Hid _:=bad_size (n:=n) (V:=V) (p:=p) hlt
   have HBX:Hid _:=bad_share (n:=n) (V:=V) (p:=p) hlt
   have HGS:Hid _:=@good_succ n V p k
   have HS1:Hid _:=gL_succ1 V p k
   have HS2:Hid _:=gL_succ2 V p k
   generalize (gL V p k).1=l at *
   generalize (gL V p k).2=q at *
   generalize gX V p k=x at *
   go_wp2_with fail
   refine (shareWidth_any l wr (by omega)).mono ?_
   rintro e w1 ⟨rfl,rfl⟩
   by_cases c1:q+bl l≤n
   ·go_wp2_with fail
    refine (HRD.out.yes V ((bl l:Nat):Int) (by omega) (hb.below hbel (by omega)) HZ.out (by omega) (by omega) (by omega)).mono ?_
    rintro e w2 ⟨rfl,hrd2,hon2,hb2⟩
    have HON2:Hid (Only (fun k=>k=R) w w2):=HON.out.trans hon2
    have HRD2:Hid (RD w2 B R a zs.length cap n (q+bl l)):=by simpa [Hid] using hrd2
    have HO2:Hid (OwI w2 w.heap.size w.heap.size s (part (gXs V p s) k)):=HO.out.only hon2 (by omega)
    have hbel2:Below B w0 w2:=hbel.trans hb2
    have hxe:V / 2 ^ q % 2 ^ ((bl l:Nat):Int).toNat=x:=by rw [HX.out];simp
    rw [hxe]
    clear hrd2 hon2 hb2 hbel HRD HO hxe
    by_cases c2:x≤l
    ·have HG2:Hid (good n V p (k+1)):=HGS.out HGD.out c1 c2
     have hpl:(part (gXs V p s) k).length=s:=by rw [part_len _ _ (by rw [HXL.out];omega)];exact HXL.out
     have hdst:=HO2.out.cell k (by omega)
     have hfz:=HO2.out.frozen k
     have R2:=HO2.out.store k ((gXs V p s).getD k 0) (by rw [HXG.out];omega)
     rw [part_set _ _ (by rw [HXL.out];exact hlt),HXG.out] at R2
     have HR2:Hid (OwI (w2.setCell ⟨w.heap.size,k,none⟩ (.int .i64 (x:Nat))) w.heap.size w.heap.size s (part (gXs V p s) (k+1))):=R2
     have HB2:Hid (Below B w0 (w2.setCell ⟨w.heap.size,k,none⟩ (.int .i64 (x:Nat)))):=hbel2.setCell (p:=⟨w.heap.size,k,none⟩) hBw (.int .i64 (x:Nat))
     have HON3:Hid (Only (fun k=>k=R) w (w2.setCell ⟨w.heap.size,k,none⟩ (.int .i64 (x:Nat)))):=HON2.out.setCell (p:=⟨w.heap.size,k,none⟩) (.inr nl) _
     have HRD3:Hid (RD (w2.setCell ⟨w.heap.size,k,none⟩ (.int .i64 (x:Nat))) B R a zs.length cap n (q+bl l)):=HRD2.out.only (Only.setCell (Only.refl (fun b=>b=w.heap.size) w2) (p:=⟨w.heap.size,k,none⟩) (.inl rfl) _) (by omega)
     have E1:Hid ((l:Int)-(x:Nat)=(((gL V p (k+1)).1:Nat):Int)):=by have:=HS1.out;unfold Hid;omega
     clear R2 hpl HRD2 HO2 hbel2 HS1 HBS HBX HGS HX HXG
     generalize (part (gXs V p s) k).getD k 0=old at *
     go_wp2
     go_roundw
     case rel=>exact ⟨k+1,by omega,by go_num,by rw [E1.out],HG2.out,by simpa using HR2.out,by rw [HS2.out];simpa using HRD3.out,by simpa using HB2.out,by simpa using HON3.out⟩
     case measure=>simp [intOf];omega
    ·have HN:Hid (¬gotN n V p s):=fun h=>HBX.out c2 h.1
     obtain ⟨T,y,hc⟩:=s2.below hbel2 (by omega)
     clear HBS HBX HGS HX HXG HRD2 HO2 HS1 HS2
     go_wp2
     go_quiet (fail)
     go_wp2
     exact bodyPost_ret (v:=.tuple #[.slice none 0 0,.iface T y]) (by simp [results,Tryz.results156,go_sem]) rfl ⟨below_dQ hbel2 _,fun h=>absurd h HN.out,fun _=>⟨T,y,_,rfl⟩,HON2.out.drewN _⟩
   ·have HN:Hid (¬gotN n V p s):=fun h=>HBS.out c1 h.1
    go_wp2_with fail
    refine (HRD.out.no ((bl l:Nat):Int) (by omega) (by omega) (s0.below hbel (by omega)) (s1.below hbel (by omega)) (by omega)).mono ?_
    rintro e w2 ⟨⟨T,y,rfl⟩,m,rfl⟩
    clear HBS HBX HGS HX HXG HRD HO HS1 HS2
    go_wp2
    exact bodyPost_ret (v:=.tuple #[.slice none 0 0,.iface T y]) (by simp [results,Tryz.results156,go_sem]) rfl ⟨below_dQ hbel _,fun h=>absurd h HN.out,fun _=>⟨T,y,_,rfl⟩,HON.out.drewN _⟩
  ·have hkn:k=s:=by omega
   subst hkn
   have hall:=HO.out
   rw [show part (gXs V p k) k=gXs V p k from by have:=part_all (gXs V p k);rw [HXL.out] at this;exact this] at hall
   have HA:Hid (OwI wr B w.heap.size k (gXs V p k)):=hall.mono hBw
   clear hall HO
   have hl:=gL_le V p k
   by_cases c0:(gL V p k).1=0
   ·have HY:Hid (gotN n V p k):=⟨HGD.out,c0⟩
    rw [c0]
    go_wp2
    exact bodyPost_ret (v:=.tuple #[.slice (some ⟨w.heap.size,0,none⟩) k k,.nilIface]) (by simp [results,Tryz.results156,go_sem]) rfl ⟨hbel,fun _=>⟨rfl,HA.out,HRD.out⟩,fun h=>absurd HY.out h,HON.out⟩
   ·have HN:Hid (¬gotN n V p k):=fun h=>c0 h.2
    obtain ⟨T,y,hc⟩:=s2.below hbel (by omega)
    generalize (gL V p k).1=l at *
    have hne:((l:Int) != 0)=true:=by rw [bne_iff_ne];omega
    clear HRD HA HGD
    go_wp2
    go_quiet (fail)
    go_wp2
    exact bodyPost_ret (v:=.tuple #[.slice none 0 0,.iface T y]) (by simp [results,Tryz.results156,go_sem]) rfl ⟨below_dQ hbel _,fun h=>absurd h HN.out,fun _=>⟨T,y,_,rfl⟩,HON.out.drewN _⟩
set_option linter.unusedSimpArgs false
theorem gXs_succ (V p k:Nat):gXs V p (k+1)=gXs V p k++[((gX V p k:Nat):Int)]:=by
 simp [gXs,List.range_succ]
theorem gXs_sum {n V p:Nat} (k:Nat) (h:good n V p k):(gXs V p k).sum+(((gL V p k).1:Nat):Int)=64:=by
 induction k with
 | zero=>rfl
 | succ k ih=>
  have h1:=ih (fun j hj=>h j (by omega))
  have h2:=(h k (by omega)).2
  rw [gXs_succ,List.sum_append,gL_succ1]
  simp only [List.sum_cons,List.sum_nil,Int.add_zero]
  omega
theorem got_normB {n V p s:Nat} (hs1:1≤s) (hs:s≤80) (h:gotN n V p s):normB (gXs V p s)=true:=by
 have h0:=gXs_sum s h.1
 rw [h.2] at h0
 simp only [normB,decide_eq_true_eq]
 rw [gXs_len]
 refine ⟨hs1,hs,fun z hz=>?_,by simpa using h0⟩
 simp only [gXs,List.mem_map,List.mem_range] at hz
 obtain ⟨k,hk,rfl⟩:=hz
 have h1:=(h.1 k hk).2
 have h2:=gL_le V p k
 omega
def tbN (V p:Nat):List Int:=tb (pl (fl 0 (gXs V p 40)) (plc 64)) (gXs V p 40) 64
def RdT (n V p N:Nat) (ts:List Int) (E k:Nat):Prop:=gotN n V p 40∧(gL V p 40).2+9=E∧E≤n∧bt V (gL V p 40).2 9=k∧E+k≤n∧fgB (tbN V p) (bt V (E+k) (n-(E+k))) (n-(E+k)) N=true∧so (tbN V p) (bt V (E+k) (n-(E+k))) (n-(E+k)-6) N=ts
theorem RdT.unique {n V p N:Nat} {ts ts':List Int} {E k E' k':Nat} (h:RdT n V p N ts E k) (h':RdT n V p N ts' E' k'):ts=ts'∧E=E'∧k=k':=by
 obtain ⟨-,rfl,-,rfl,-,-,rfl⟩:=h
 obtain ⟨-,rfl,-,rfl,-,-,rfl⟩:=h'
 exact ⟨rfl,rfl,rfl⟩
theorem getByTable_any (R B:Nat) (a:Option Addr) (cap:Nat) (zs:List Int) (n V p N:Nat) (w0 w:World) (hb:Byt w0 a zs) (hB:w0.heap.size=B) (hbel:Below B w0 w) (hz:zs=enc n V) (hn:n≤4096) (hR:RD w B R a zs.length cap n p) (hp:p≤n) (hN:N≤300) (hS:SentD w0) :
  Calls Tryz.prog 136 #[.pointer (some ⟨R,0,none⟩),.int .i64 N] w fun e w'=>Only (fun k=>k=R) w w' ∧
   ((∃ ts E k g a' cp,RdT n V p N ts E k∧E+k≤n∧OwI w' w.heap.size g N ts∧Mine w' w.heap.size w'.heap.size a' cp (enc k (bt V E k)) ∧
     e=.returned (.tuple #[.slice (some ⟨g,0,none⟩) N N,.agg #[.slice a' (enc k (bt V E k)).length cp,.int .i64 (k:Nat)],.nilIface])) ∨
    ((¬∃ ts E k,RdT n V p N ts E k)∧∃ T x v z l c M,e=.returned (.tuple #[v,.agg #[.slice z l c,.int .i64 M],.iface T x]))):=by
 have hRl:R<w.heap.size:=(Array.getElem?_eq_some_iff.1 hR.1).1
 have hBW:Below B w0 w∧B≤R∧B≤w.heap.size:=⟨hbel,hR.2.1,hR.2.2⟩
 have HQ:Hid (Byt w0 a zs∧w0.heap.size=B∧zs=enc n V∧SentD w0∧(Below B w0 w∧B≤R∧B≤w.heap.size)):=⟨hb,hB,hz,hS,hBW⟩
 have hA1:=AnO.new R w
 have hG1:=hS.hG
 have hG2:=hS.f.hG
 have HGL:=getNorm_fr R B a cap zs n V p 40 w0 _ hb hB (fr_below hBW hA1.on) hz hn (hR.only (Only.alloc (Only.refl (fun _=>False) w) _) (by simp)) hp (by omega) hS.f.s0 hS.f.s1 hS.s5 (by omega)
 have HA1:Hid _:=hA1
 clear hb hB hz hS hBW hbel hR hA1
 go_enter Tryz.func136,Tryz.ntmps136
 go_wp2_with fail
 refine HGL.mono ?_
 clear HGL
 rintro e w2 ⟨hb2,hy2,hn2,ho2⟩
 have HA2:Hid (AnO R w w2):=AnO.step HA1.out ho2 hRl
 clear HA1 ho2
 by_cases hex:gotN n V p 40
 ·obtain ⟨rfl,how2,hrd2⟩:=hy2 hex
  have hqn:(gL V p 40).2≤n:=good_pos hp hex.1
  have HGN:Hid (gotN n V p 40∧OwI w2 B (w.alloc (Obj.cells #[.slice none 0 0,.int .i64 0] 40)).heap.size 40 (gXs V p 40)∧RD w2 B R a zs.length cap n (gL V p 40).2∧Below B w0 w2):=⟨hex,how2,hrd2,hb2⟩
  have hgs:=how2.lt
  clear hy2 hn2 hb2 how2 hrd2 hex
  simp only [World.size_alloc] at HGN hgs
  obtain ⟨q,hq⟩:∃ q,q=(gL V p 40).2:=⟨_,rfl⟩
  rw [←hq] at hqn HGN
  have HQE:Hid (q=(gL V p 40).2):=hq
  clear hq
  by_cases c9:q+9≤n
  ·have HG9:=HGN.out.2.2.1.yes V 9 (by omega) (HQ.out.1.below HGN.out.2.2.2 (by rw [HQ.out.2.1];exact Nat.le_refl _)) HQ.out.2.2.1 (by omega) (by omega) (by omega)
   go_wp2_with fail
   refine HG9.mono ?_
   clear HG9
   rintro e w3 ⟨rfl,hrd3,ho3,hb3⟩
   have hA3:AnO R w w3:=AnO.step HA2.out ho3 hRl
   have hO3:OwI w3 B (w.heap.size+1) 40 (gXs V p 40):=HGN.out.2.1.only ho3 (by omega)
   have hbl3:Below B w0 w3:=HGN.out.2.2.2.trans hb3
   obtain ⟨k,hk⟩:∃ k,k=bt V q 9:=⟨_,rfl⟩
   rw [show V / 2 ^ q % 2 ^ (9:Int).toNat=k from hk.symm]
   have hk9:k<512:=by rw [hk];exact bt_lt V q 9
   have HKE:Hid (bt V q 9=k):=hk.symm
   clear hk
   obtain ⟨E,hE⟩:∃ E,E=q+9:=⟨_,rfl⟩
   have hrd3':RD w3 B R a zs.length cap n E:=by rw [hE];exact hrd3
   have hEn:E≤n:=by omega
   have HEE:Hid (E=q+9):=hE
   have HGO:Hid (gotN n V p 40):=HGN.out.1
   have hgl:=hO3.lt.2
   have hbz3:Byt w3 a zs:=HQ.out.1.below hbl3 (by rw [HQ.out.2.1];exact Nat.le_refl _)
   have hSD3:SentD w3:=HQ.out.2.2.2.1.below (by rw [HQ.out.2.1];exact hbl3)
   clear hrd3 ho3 hb3 HA2 HGN hE
   by_cases ck:E+k≤n
   ·have HTK:=take_yes R B a cap zs n V E k w3 hrd3' hbz3 HQ.out.2.2.1 hn ck hSD3.t
    have HS3:Hid (AnO R w w3∧OwI w3 B (w.heap.size+1) 40 (gXs V p 40)∧Below B w0 w3∧Byt w3 a zs∧SentD w3):=⟨hA3,hO3,hbl3,hbz3,hSD3⟩
    clear hA3 hO3 hbl3 hbz3 hSD3 hrd3'
    go_wp2_with fail
    refine HTK.mono ?_
    clear HTK
    rintro e w4 ⟨a4,c4,rfl,hm4,hrd4,ho4⟩
    have z34:=ho4.size
    obtain ⟨es,hes⟩:∃ es,es=enc k (bt V E k):=⟨_,rfl⟩
    rw [←hes] at hm4 ⊢
    have HES:Hid (es=enc k (bt V E k)):=hes
    clear hes
    have hO5:Only (fun k=>k=R) w3 (w4.alloc (Obj.cells #[.slice a4 es.length c4,.int .i64 (k:Nat)] 40)):=ho4.alloc _
    have hrd5:RD (w4.alloc (Obj.cells #[.slice a4 es.length c4,.int .i64 (k:Nat)] 40)) B R a zs.length cap n (E+k):=hrd4.only ((Only.refl (fun _=>False) w4).alloc _) (by simp)
    have hm5:Mine (w4.alloc (Obj.cells #[.slice a4 es.length c4,.int .i64 (k:Nat)] 40)) w3.heap.size w4.heap.size a4 c4 es:=hm4.only ((Only.refl (fun _=>False) w4).alloc _) (by simp)
    have hn5:=heap_alloc_new w4 (Obj.cells #[.slice a4 es.length c4,.int .i64 (k:Nat)] 40)
    have z45:w4.heap.size<(w4.alloc (Obj.cells #[.slice a4 es.length c4,.int .i64 (k:Nat)] 40)).heap.size:=by simp
    have HS5:Hid _:=(⟨hO5,hrd5,hm5,hn5⟩:_∧_∧_∧_)
    have HLE:=hrd5.left (by omega) (by omega)
    clear hm4 hrd4 ho4 hO5 hrd5 hm5 hn5
    go_wp2_with fail
    refine HLE.mono ?_
    clear HLE
    rintro e w6 ⟨rfl,m6,rfl⟩
    have hO6:Only (fun k=>k=R) w3 ((w4.alloc (Obj.cells #[.slice a4 es.length c4,.int .i64 (k:Nat)] 40)).drewN m6):=HS5.out.1.drewN m6
    have hrd6:RD ((w4.alloc (Obj.cells #[.slice a4 es.length c4,.int .i64 (k:Nat)] 40)).drewN m6) B R a zs.length cap n (E+k):=RD.only HS5.out.2.1 ((Only.refl (fun _=>False) _).drewN m6) (by simp)
    have hm6:Mine ((w4.alloc (Obj.cells #[.slice a4 es.length c4,.int .i64 (k:Nat)] 40)).drewN m6) w3.heap.size w4.heap.size a4 c4 es:=Mine.only HS5.out.2.2.1 ((Only.refl (fun _=>False) _).drewN m6) (by simp)
    have hn6:((w4.alloc (Obj.cells #[.slice a4 es.length c4,.int .i64 (k:Nat)] 40)).drewN m6).heap[w4.heap.size]?=some (.cells #[.slice a4 es.length c4,.int .i64 (k:Nat)] 40 (0,0)):=HS5.out.2.2.2
    clear HS5 z45
    generalize (w4.alloc (Obj.cells #[.slice a4 es.length c4,.int .i64 (k:Nat)] 40)).drewN m6=w6 at *
    have z46:w4.heap.size<w6.heap.size:=(Array.getElem?_eq_some_iff.1 hn6).1
    have hA6:AnO R w w6:=AnO.step HS3.out.1 hO6 hRl
    have hO66:OwI w6 B (w.heap.size+1) 40 (gXs V p 40):=HS3.out.2.1.only hO6 (by omega)
    have hbl6:=fr_below HQ.out.2.2.2.2 hA6.on
    have hbz6:Byt w6 a zs:=HQ.out.1.below hbl6 (by rw [HQ.out.2.1];exact Nat.le_refl _)
    have hSD6:SentD w6:=HQ.out.2.2.2.1.below (by rw [HQ.out.2.1];exact hbl6)
    have hM:((n:Int)-((E+k:Nat):Int))=((n-(E+k):Nat):Int):=by omega
    rw [hM]
    have HTK:=take_yes R B a cap zs n V (E+k) (n-(E+k)) w6 hrd6 hbz6 HQ.out.2.2.1 hn (by omega) hSD6.t
    have hmn:n-(E+k)≤4096:=by omega
    have HRD:Hid (∀ ts,RdT n V p N ts E k↔fgB (tbN V p) (bt V (E+k) (n-(E+k))) (n-(E+k)) N=true∧so (tbN V p) (bt V (E+k) (n-(E+k))) (n-(E+k)-6) N=ts):=by
     intro ts
     constructor
     ·rintro ⟨-,-,-,-,-,h1,h2⟩
      exact ⟨h1,h2⟩
     ·rintro ⟨h1,h2⟩
      exact ⟨HGO.out,by rw [←HQE.out];exact HEE.out.symm,hEn,by rw [←HQE.out];exact HKE.out,ck,h1,h2⟩
    have HRN:Hid (fgB (tbN V p) (bt V (E+k) (n-(E+k))) (n-(E+k)) N=false→¬∃ ts E k,RdT n V p N ts E k):=by
     rintro h0 ⟨ts,E',k',h1⟩
     obtain ⟨-,e1,-,e2,-,h5,-⟩:=h1
     rw [←HQE.out,←HEE.out] at e1
     rw [←HQE.out,HKE.out] at e2
     subst e1 e2
     rw [h0] at h5
     cases h5
    have HS6:Hid (AnO R w w6∧OwI w6 B (w.heap.size+1) 40 (gXs V p 40)∧SentD w6∧Mine w6 w3.heap.size w4.heap.size a4 c4 es∧w6.heap[w4.heap.size]?=some (.cells #[.slice a4 es.length c4,.int .i64 (k:Nat)] 40 (0,0))):=⟨hA6,hO66,hSD6,hm6,hn6⟩
    have z3:w.heap.size<w3.heap.size:=HS3.out.1.lt
    clear HS3 hA6 hO66 hSD6 hm6 hn6 hO6 hrd6 hbl6 hbz6 hM
    generalize n-(E+k)=M at *
    generalize bt V (E+k) M=U at *
    go_wp2_with fail
    refine HTK.mono ?_
    clear HTK
    rintro e w7 ⟨a7,c7,rfl,hm7,hrd7,ho7⟩
    have z67:=ho7.size
    obtain ⟨xs,hxs⟩:∃ xs,xs=enc M U:=⟨_,rfl⟩
    rw [←hxs] at hm7 ⊢
    have hA8:AnO R w (w7.alloc (Obj.cells #[.slice a7 xs.length c7,.int .i64 (M:Nat)] 40)):=AnO.step HS6.out.1 (ho7.alloc _) hRl
    have hO8:OwI (w7.alloc (Obj.cells #[.slice a7 xs.length c7,.int .i64 (M:Nat)] 40)) B (w.heap.size+1) 40 (gXs V p 40):=HS6.out.2.1.only (ho7.alloc _) (by omega)
    have hm8:Mine (w7.alloc (Obj.cells #[.slice a7 xs.length c7,.int .i64 (M:Nat)] 40)) w6.heap.size w7.heap.size a7 c7 xs:=hm7.only ((Only.refl (fun _=>False) w7).alloc _) (by simp)
    have hs8:Mine (w7.alloc (Obj.cells #[.slice a7 xs.length c7,.int .i64 (M:Nat)] 40)) w3.heap.size w4.heap.size a4 c4 es:=HS6.out.2.2.2.1.only (ho7.alloc _) (fun b h1 _=>by omega)
    have hn8:(w7.alloc (Obj.cells #[.slice a7 xs.length c7,.int .i64 (M:Nat)] 40)).heap[w4.heap.size]?=_:=((ho7.alloc (Obj.cells #[.slice a7 xs.length c7,.int .i64 (M:Nat)] 40)).block w4.heap.size z46 (by omega)).trans HS6.out.2.2.2.2
    have hSD8:SentD (w7.alloc (Obj.cells #[.slice a7 xs.length c7,.int .i64 (M:Nat)] 40)):=HQ.out.2.2.2.1.below (by rw [HQ.out.2.1];exact fr_below HQ.out.2.2.2.2 hA8.on)
    have HTX:=wholeText_any (some ⟨w.heap.size+1,0,none⟩) 40 (gXs V p 40) a7 c7 xs M U N (tbN V p) _ hO8.byt hm8.byt hxs hmn hN (got_normB (by omega) (by omega) HGO.out) rfl hSD8.f
    rw [gXs_len] at HTX
    have z8:w7.heap.size<(w7.alloc (Obj.cells #[.slice a7 xs.length c7,.int .i64 (M:Nat)] 40)).heap.size:=by simp
    have HS8:Hid (AnO R w _∧Mine _ w3.heap.size w4.heap.size a4 c4 es∧_):=⟨hA8,hs8,hn8⟩
    clear hA8 hO8 hm8 hs8 hn8 hSD8 HS6 hm7 hrd7 ho7 hxs
    go_wp2_with fail
    refine HTX.mono ?_
    clear HTX
    rintro e w9 ⟨hb9,hcs⟩
    have hA9:AnO R w w9:=AnO.step HS8.out.1 (Only.ofBelow hb9 nl) hRl
    have HM9:Hid (Mine w9 w3.heap.size w4.heap.size a4 c4 es):=Mine.below HS8.out.2.1 hb9
    have hn9:=(hb9.block w4.heap.size (by omega)).trans HS8.out.2.2
    have b0:w9.cell? ⟨w4.heap.size,0,none⟩=some (.slice a4 es.length c4):=cellR (j:=0) hn9 rfl
    have b1:w9.cell? ⟨w4.heap.size,1,none⟩=some (.int .i64 (k:Nat)):=cellR (j:=1) hn9 rfl
    have z9:=hb9.size
    have HON:Hid (Only (fun k=>k=R) w w9):=hA9.on
    obtain ⟨x0,x1,y0,y1,hlt9,_⟩:=hA9
    clear hb9 hn9 HS8
    have hne:w.heap.size≠w4.heap.size:=by omega
    rcases hcs with ⟨hf,T',y,rfl⟩ | ⟨hf,g,rfl,hog⟩
    ·have HNO:Hid (¬∃ ts E k,RdT n V p N ts E k):=HRN.out hf
     clear hf HRN HRD
     go_wp2
     go_region
     go_wp2
     refine bodyPost_ret (v:=.tuple #[.slice none 0 0,.agg #[.slice a4 es.length c4,.int .i64 (k:Nat)],.iface T' y]) (by simp [results,Tryz.results136,go_sem,x0,x1]) rfl ⟨?_,.inr ⟨HNO.out,_,_,_,_,_,_,_,rfl⟩⟩
     have h0:=HON.out
     repeat (first | exact h0 | refine Only.drew ?_ | refine Only.setCell ?_ (.inr (by simp)) _)
    ·have HYE:Hid (RdT n V p N (so (tbN V p) U (M-6) N) E k):=(HRD.out _).2 ⟨hf,rfl⟩
     have HOG:Hid (OwI w9 w.heap.size g N (so (tbN V p) U (M-6) N)∧w7.heap.size<g):=⟨hog.mono (by omega),by have:=hog.lt.1;omega⟩
     clear hf HRN HRD hog
     go_wp2
     go_region
     go_wp2
     have hO9:Only (fun k=>k=w.heap.size) w9 ((w9.setCell ⟨w.heap.size,0,none⟩ (.slice a4 es.length c4)).setCell ⟨w.heap.size,1,none⟩ (.int .i64 (k:Nat))).drew:=
      (Only.setCell (Only.setCell (Only.refl (fun k=>k=w.heap.size) w9) (p:=⟨w.heap.size,0,none⟩) (.inl rfl) _) (p:=⟨w.heap.size,1,none⟩) (.inl rfl) _).drew
     refine bodyPost_ret (v:=.tuple #[.slice (some ⟨g,0,none⟩) N N,.agg #[.slice a4 es.length c4,.int .i64 (k:Nat)],.nilIface]) (by simp [results,Tryz.results136,go_sem,x0,x1]) rfl ⟨?_,.inl ⟨_,E,k,g,a4,c4,HYE.out,ck,?_,?_,by rw [HES.out]⟩⟩
     ·have h0:=HON.out
      repeat (first | exact h0 | refine Only.drew ?_ | refine Only.setCell ?_ (.inr (by simp)) _)
     ·exact HOG.out.1.only hO9 (by have:=HOG.out.2;omega)
     ·rw [←HES.out]
      exact (HM9.out.only hO9 (fun b h1 _=>by omega)).mono (by omega) (Nat.le_trans (by omega) hO9.size)
   ·have HNO:Hid (¬∃ ts E k,RdT n V p N ts E k):=by
     rintro ⟨ts,E',k',-,h1,-,h2,h3,-⟩
     rw [←HQE.out,HKE.out] at h2
     rw [←HQE.out,←HEE.out] at h1
     omega
    have HTK:=take_no R B a zs.length cap n E k w3 hrd3' hn hEn (by omega) (by omega) hSD3.t
    have HA3:Hid (AnO R w w3):=hA3
    clear hA3 hO3 hbl3 hbz3 hSD3 hrd3'
    go_wp2_with fail
    refine HTK.mono ?_
    clear HTK
    rintro e w4 ⟨T,y,rfl,hb4⟩
    have hA4:AnO R w w4:=AnO.step HA3.out (Only.ofBelow hb4 nl) hRl
    have HON:Hid (Only (fun k=>k=R) w w4):=hA4.on
    obtain ⟨x0,x1,y0,y1,hlt4,_⟩:=hA4
    clear hb4 HA3
    go_wp2
    refine bodyPost_ret (v:=.tuple #[.slice none 0 0,.agg #[.slice none 0 0,.int .i64 0],.iface T y]) (by simp [results,Tryz.results136,go_sem,x0,x1,hlt4]) rfl ⟨?_,.inr ⟨HNO.out,_,_,_,_,_,_,_,rfl⟩⟩
    have h0:=HON.out
    repeat (first | exact h0 | refine Only.setCell ?_ (.inr (by simp)) _ | refine Only.alloc ?_ _)
  ·have HNO:Hid (¬∃ ts E k,RdT n V p N ts E k):=by
    rintro ⟨ts,E,k,-,h1,h2,-⟩
    have:=HQE.out
    omega
   have HG9:=HGN.out.2.2.1.no 9 (by omega) (by omega) (HQ.out.2.2.2.1.f.s0.below HGN.out.2.2.2 (by have:=HQ.out.2.1;omega)) (HQ.out.2.2.2.1.f.s1.below HGN.out.2.2.2 (by have:=HQ.out.2.1;omega)) (by omega)
   go_wp2_with fail
   refine HG9.mono ?_
   clear HG9
   rintro e w3 ⟨⟨T,y,rfl⟩,m,rfl⟩
   have hA4:AnO R w (w2.drewN m):=AnO.step HA2.out ((Only.refl _ _).drewN m) hRl
   generalize w2.drewN m=w4 at *
   have HON:Hid (Only (fun k=>k=R) w w4):=hA4.on
   obtain ⟨x0,x1,y0,y1,_,_⟩:=hA4
   go_wp2
   refine bodyPost_ret (v:=.tuple #[.slice none 0 0,.agg #[.slice none 0 0,.int .i64 0],.iface T y]) (by simp [results,Tryz.results136,go_sem,x0,x1]) rfl ⟨?_,.inr ⟨HNO.out,_,_,_,_,_,_,_,rfl⟩⟩
   have h0:=HON.out
   repeat (first | exact h0 | refine Only.setCell ?_ (.inr (by simp)) _)
 ·obtain ⟨T,x,v,rfl⟩:=hn2 hex
  have HNO:Hid (¬∃ ts E k,RdT n V p N ts E k):=fun ⟨ts,E,k,h,_⟩=>hex h
  have x0:=HA2.out.r0
  have x1:=HA2.out.r1
  have y0:=HA2.out.f0
  have y1:=HA2.out.f1
  clear hy2 hn2 hex hb2
  go_wp2
  refine bodyPost_ret (v:=.tuple #[.slice none 0 0,.agg #[.slice none 0 0,.int .i64 0],.iface T x]) (by simp [results,Tryz.results136,go_sem,x0,x1]) rfl ⟨?_,.inr ⟨HNO.out,_,_,_,_,_,_,_,rfl⟩⟩
  have h0:=HA2.out.on
  repeat (first | exact h0 | refine Only.setCell ?_ (.inr (by simp)) _)
def RdS (n V m:Nat) (ts:List Int) (M U:Nat):Prop:=8≤n∧((m=2∧∃ E,RdH n V 8 (bt V 0 8) ts E∧E≤n∧M=n-E∧U=bt V E (n-E))∨(m≠2∧∃ E,RdT n V 8 (bt V 0 8) ts E M∧E+M≤n∧U=bt V E M))
theorem RdS.unique {n V m:Nat} {ts ts':List Int} {M U M' U':Nat} (h:RdS n V m ts M U) (h':RdS n V m ts' M' U'):ts=ts'∧M=M'∧U=U':=by
 obtain ⟨-,⟨hm,E,h1,-,rfl,rfl⟩ | ⟨hm,E,h1,-,rfl⟩⟩:=h
 ·obtain ⟨-,⟨hm',E',h1',-,rfl,rfl⟩ | ⟨hm',E',h1',-,rfl⟩⟩:=h'
  ·obtain ⟨rfl,rfl⟩:=h1.unique h1'
   exact ⟨rfl,rfl,rfl⟩
  ·exact absurd hm hm'
 ·obtain ⟨-,⟨hm',E',h1',-,rfl,rfl⟩ | ⟨hm',E',h1',-,rfl⟩⟩:=h'
  ·exact absurd hm' hm
  ·obtain ⟨rfl,rfl,rfl⟩:=h1.unique h1'
   exact ⟨rfl,rfl,rfl⟩
theorem RdS.le {n V m:Nat} {ts:List Int} {M U:Nat} (h:RdS n V m ts M U):M≤n:=by
 obtain ⟨-,⟨hm,E,h1,-,rfl,rfl⟩ | ⟨hm,E,h1,h2,rfl⟩⟩:=h <;> omega
theorem getSymbols_any (R B:Nat) (a:Option Addr) (cap:Nat) (zs:List Int) (n V m:Nat) (w0 w:World) (hb:Byt w0 a zs) (hB:w0.heap.size=B) (hbel:Below B w0 w) (hz:zs=enc n V) (hn:n≤4096) (hR:RD w B R a zs.length cap n 0) (hm:m≤255) (hS:SentD w0) :
  Calls Tryz.prog 106 #[.pointer (some ⟨R,0,none⟩),.int .i64 m] w fun e w'=>Only (fun k=>k=R) w w' ∧
   ((∃ ts M U g a' cp,RdS n V m ts M U∧OwI w' w.heap.size g (bt V 0 8) ts∧Mine w' w.heap.size w'.heap.size a' cp (enc M U) ∧
     e=.returned (.tuple #[.slice (some ⟨g,0,none⟩) (bt V 0 8) (bt V 0 8),.agg #[.slice a' (enc M U).length cp,.int .i64 (M:Nat)],.nilIface])) ∨
    ((¬∃ ts M U,RdS n V m ts M U)∧∃ T x v z l c M,e=.returned (.tuple #[v,.agg #[.slice z l c,.int .i64 M],.iface T x]))):=by
 have hRl:R<w.heap.size:=(Array.getElem?_eq_some_iff.1 hR.1).1
 have hBW:Below B w0 w∧B≤R∧B≤w.heap.size:=⟨hbel,hR.2.1,hR.2.2⟩
 have HQ:Hid (Byt w0 a zs∧w0.heap.size=B∧zs=enc n V∧SentD w0∧(Below B w0 w∧B≤R∧B≤w.heap.size)):=⟨hb,hB,hz,hS,hBW⟩
 have hA1:=AnO.new R w
 have hG2:=hS.f.hG
 have hrd1:RD (w.alloc (Obj.cells #[.slice none 0 0,.int .i64 0] 40)) B R a zs.length cap n 0:=hR.only (Only.alloc (Only.refl (fun _=>False) w) _) (by simp)
 have hbl1:=fr_below hBW hA1.on
 have HA1:Hid _:=hA1
 by_cases c8:8≤n
 ·have HG8:=hrd1.yes V 8 (by omega) (hb.below hbl1 (by rw [hB];exact Nat.le_refl _)) hz (by omega) (by omega) (by omega)
  clear hb hB hz hS hBW hbel hR hA1 hrd1 hbl1
  go_enter Tryz.func106,Tryz.ntmps106
  go_wp2_with fail
  refine HG8.mono ?_
  clear HG8
  rintro e w3 ⟨rfl,hrd3,ho3,hb3⟩
  have hA3:AnO R w w3:=AnO.step HA1.out ho3 hRl
  have hbl3:=fr_below HQ.out.2.2.2.2 hA3.on
  have hN8:bt V 0 8<256:=bt_lt V 0 8
  rw [show V / 2 ^ 0 % 2 ^ (8:Int).toNat=bt V 0 8 from rfl]
  have hrd3':RD w3 B R a zs.length cap n 8:=hrd3
  have HLL:=getByLengths_any R B a cap zs n V 8 (bt V 0 8) w0 w3 HQ.out.1 HQ.out.2.1 hbl3 HQ.out.2.2.1 hn hrd3' c8 (by omega) HQ.out.2.2.2.1
  have HTT:=getByTable_any R B a cap zs n V 8 (bt V 0 8) w0 w3 HQ.out.1 HQ.out.2.1 hbl3 HQ.out.2.2.1 hn hrd3' c8 (by omega) HQ.out.2.2.2.1
  have HA3:Hid (AnO R w w3):=hA3
  have z3:=hA3.lt
  clear HA1 hrd3 hrd3' ho3 hb3 hA3 hbl3
  obtain ⟨N,hNe⟩:∃ N,N=bt V 0 8:=⟨_,rfl⟩
  rw [←hNe] at HLL HTT hN8 ⊢
  have HNE:Hid (N=bt V 0 8):=hNe
  clear hNe
  by_cases hm2:m=2
  ·have hmi:((m:Int) == 2)=true:=by rw [beq_iff_eq];omega
   clear HTT
   go_wp2_with fail
   refine HLL.mono ?_
   clear HLL
   rintro e w4 ⟨ho4,⟨ts,E,g,a',cp,hrh,hEn,how,hmi4,rfl⟩ | ⟨hno,T,x,v,z,l,c,M,rfl⟩⟩
   ·have hA4:AnO R w w4:=AnO.step HA3.out ho4 hRl
    have HRS:Hid (RdS n V m ts (n-E) (bt V E (n-E))):=⟨c8,.inl ⟨hm2,E,by rw [←HNE.out];exact hrh,hEn,rfl,rfl⟩⟩
    have HF:Hid (Only (fun k=>k=R) w w4∧OwI w4 w3.heap.size g N ts∧Mine w4 w3.heap.size w4.heap.size a' cp (enc (n-E) (bt V E (n-E)))):=⟨hA4.on,how,hmi4⟩
    have hgl:=how.lt.1
    obtain ⟨x0,x1,y0,y1,hlt4,_⟩:=hA4
    clear ho4 hrh how hmi4 HA3
    generalize bt V E (n-E)=U at *
    generalize n-E=M at *
    generalize hES:enc M U=es at *
    have HES:Hid (enc M U=es):=hES
    clear hES
    go_wp2
    have hO9:Only (fun k=>k=w.heap.size) w4 ((w4.setCell ⟨w.heap.size,0,none⟩ (.slice a' es.length cp)).setCell ⟨w.heap.size,1,none⟩ (.int .i64 (M:Nat))):=
     Only.setCell (Only.setCell (Only.refl (fun k=>k=w.heap.size) w4) (p:=⟨w.heap.size,0,none⟩) (.inl rfl) _) (p:=⟨w.heap.size,1,none⟩) (.inl rfl) _
    refine bodyPost_ret (v:=.tuple #[.slice (some ⟨g,0,none⟩) N N,.agg #[.slice a' es.length cp,.int .i64 (M:Nat)],.nilIface]) (by simp [results,Tryz.results106,go_sem,x0,x1]) rfl ⟨?_,.inl ⟨ts,M,U,g,a',cp,HRS.out,?_,?_,by rw [HES.out,HNE.out]⟩⟩
    ·have h0:=HF.out.1
     repeat (first | exact h0 | refine Only.setCell ?_ (.inr (by simp)) _)
    ·rw [←HNE.out]
     exact (HF.out.2.1.mono (by omega)).only hO9 (by omega)
    ·rw [HES.out]
     exact (HF.out.2.2.only hO9 (fun b h1 _=>by omega)).mono (by omega) hO9.size
   ·have HNO:Hid (¬∃ ts M U,RdS n V m ts M U):=by
     rintro ⟨ts,M,U,-,⟨-,E,h1,-⟩ | ⟨h1,-⟩⟩
     ·exact hno ⟨ts,E,by rw [HNE.out];exact h1⟩
     ·exact h1 hm2
    have hA4:AnO R w w4:=AnO.step HA3.out ho4 hRl
    have HON:Hid (Only (fun k=>k=R) w w4):=hA4.on
    obtain ⟨x0,x1,y0,y1,hlt4,_⟩:=hA4
    clear ho4 hno HA3
    go_wp2
    refine bodyPost_ret (v:=.tuple #[v,.agg #[.slice z l c,.int .i64 M],.iface T x]) (by simp [results,Tryz.results106,go_sem,x0,x1]) rfl ⟨?_,.inr ⟨HNO.out,_,_,_,_,_,_,_,rfl⟩⟩
    have h0:=HON.out
    repeat (first | exact h0 | refine Only.setCell ?_ (.inr (by simp)) _)
  ·have hmi:((m:Int) == 2)=false:=by rw [beq_eq_false_iff_ne];omega
   clear HLL
   go_wp2_with fail
   refine HTT.mono ?_
   clear HTT
   rintro e w4 ⟨ho4,⟨ts,E,M,g,a',cp,hrh,hEn,how,hmi4,rfl⟩ | ⟨hno,T,x,v,z,l,c,M,rfl⟩⟩
   ·have hA4:AnO R w w4:=AnO.step HA3.out ho4 hRl
    have HRS:Hid (RdS n V m ts M (bt V E M)):=⟨c8,.inr ⟨hm2,E,by rw [←HNE.out];exact hrh,hEn,rfl⟩⟩
    have HF:Hid (Only (fun k=>k=R) w w4∧OwI w4 w3.heap.size g N ts∧Mine w4 w3.heap.size w4.heap.size a' cp (enc M (bt V E M))):=⟨hA4.on,how,hmi4⟩
    have hgl:=how.lt.1
    obtain ⟨x0,x1,y0,y1,hlt4,_⟩:=hA4
    clear ho4 hrh how hmi4 HA3
    generalize bt V E M=U at *
    generalize hES:enc M U=es at *
    have HES:Hid (enc M U=es):=hES
    clear hES
    go_wp2
    have hO9:Only (fun k=>k=w.heap.size) w4 ((w4.setCell ⟨w.heap.size,0,none⟩ (.slice a' es.length cp)).setCell ⟨w.heap.size,1,none⟩ (.int .i64 (M:Nat))):=
     Only.setCell (Only.setCell (Only.refl (fun k=>k=w.heap.size) w4) (p:=⟨w.heap.size,0,none⟩) (.inl rfl) _) (p:=⟨w.heap.size,1,none⟩) (.inl rfl) _
    refine bodyPost_ret (v:=.tuple #[.slice (some ⟨g,0,none⟩) N N,.agg #[.slice a' es.length cp,.int .i64 (M:Nat)],.nilIface]) (by simp [results,Tryz.results106,go_sem,x0,x1]) rfl ⟨?_,.inl ⟨ts,M,U,g,a',cp,HRS.out,?_,?_,by rw [HES.out,HNE.out]⟩⟩
    ·have h0:=HF.out.1
     repeat (first | exact h0 | refine Only.setCell ?_ (.inr (by simp)) _)
    ·rw [←HNE.out]
     exact (HF.out.2.1.mono (by omega)).only hO9 (by omega)
    ·rw [HES.out]
     exact (HF.out.2.2.only hO9 (fun b h1 _=>by omega)).mono (by omega) hO9.size
   ·have HNO:Hid (¬∃ ts M U,RdS n V m ts M U):=by
     rintro ⟨ts,M,U,-,⟨h1,-⟩ | ⟨-,E,h1,-⟩⟩
     ·exact hm2 h1
     ·exact hno ⟨ts,E,M,by rw [HNE.out];exact h1⟩
    have hA4:AnO R w w4:=AnO.step HA3.out ho4 hRl
    have HON:Hid (Only (fun k=>k=R) w w4):=hA4.on
    obtain ⟨x0,x1,y0,y1,hlt4,_⟩:=hA4
    clear ho4 hno HA3
    go_wp2
    refine bodyPost_ret (v:=.tuple #[v,.agg #[.slice z l c,.int .i64 M],.iface T x]) (by simp [results,Tryz.results106,go_sem,x0,x1]) rfl ⟨?_,.inr ⟨HNO.out,_,_,_,_,_,_,_,rfl⟩⟩
    have h0:=HON.out
    repeat (first | exact h0 | refine Only.setCell ?_ (.inr (by simp)) _)
 ·have HNO:Hid (¬∃ ts M U,RdS n V m ts M U):=fun ⟨ts,M,U,h,_⟩=>c8 h
  have HG8:=hrd1.no 8 (by omega) (by omega) (hS.f.s0.below hbl1 (by omega)) (hS.f.s1.below hbl1 (by omega)) (by omega)
  clear hb hB hz hS hBW hbel hR hA1 hrd1 hbl1
  go_enter Tryz.func106,Tryz.ntmps106
  go_wp2_with fail
  refine HG8.mono ?_
  clear HG8
  rintro e w3 ⟨⟨T,y,rfl⟩,m3,rfl⟩
  have hA4:AnO R w _:=AnO.step HA1.out ((Only.refl _ _).drewN m3) hRl
  clear HA1
  generalize (w.alloc (Obj.cells #[.slice none 0 0,.int .i64 0] 40)).drewN m3=w4 at *
  have HON:Hid (Only (fun k=>k=R) w w4):=hA4.on
  obtain ⟨x0,x1,y0,y1,hlt4,_⟩:=hA4
  go_wp2
  refine bodyPost_ret (v:=.tuple #[.slice none 0 0,.agg #[.slice none 0 0,.int .i64 0],.iface T y]) (by simp [results,Tryz.results106,go_sem,x0,x1]) rfl ⟨?_,.inr ⟨HNO.out,_,_,_,_,_,_,_,rfl⟩⟩
  have h0:=HON.out
  repeat (first | exact h0 | refine Only.setCell ?_ (.inr (by simp)) _)
end Go.Proofs.YtfeokafkhnbdiaaGreatDoor
