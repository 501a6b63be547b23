/- Lemmas on the way. -/
import Derived.Test.YtaibkchbkedjnaaGreatDoorElSz
import Derived.Test.YtaibkchbkedjnaaGreatDoorItEq
import Derived.Deep.AppendLies
import Derived.Deep.RegionLaw
import Derived.BigRegion
import Derived.Deep.RegionHeld3
import Derived.WalkKit
import Derived.Laws.BitsAllLaws
set_option maxRecDepth 20000
set_option maxHeartbeats 16000000
namespace Go.Proofs.YtaibkchbkedjnaaGreatDoor
open Go.RowKit
set_option linter.unusedVariables false
def dp :Int × Int:=(0,0)
def rP (p:Int × Int):Prop:=(-9223372036854775808≤p.1∧p.1≤9223372036854775807)∧(-9223372036854775808≤p.2∧p.2≤9223372036854775807)
def pcs (p:Int × Int):List Value:=[.int .i64 p.1,.int .i64 p.2]
def Pls (w:World) (a:Option Addr) (ps:List (Int × Int)):Prop:=
 (∀ p ∈ ps,rP p)∧(0<ps.length→∃ b off,a=some ⟨b,off,none⟩∧b<w.heap.size∧∀ i,i<ps.length→w.cell? ⟨b,off+i*2,none⟩=some (.int .i64 (ps.getD i dp).1)∧w.cell? ⟨b,off+i*2+1,none⟩=some (.int .i64 (ps.getD i dp).2))
theorem getD_memP {ps:List (Int × Int)} {k:Nat} (hk:k<ps.length):ps.getD k dp ∈ ps:=by
 rw [List.getD_eq_getElem?_getD,List.getElem?_eq_getElem hk];exact List.getElem_mem hk
theorem Pls.below {w w':World} {a:Option Addr} {ps:List (Int × Int)} {B:Nat} (h:Pls w a ps) (hb:Below B w w') (hB:w.heap.size≤B):Pls w' a ps:=by
 refine ⟨h.1,fun hz=>?_⟩
 obtain ⟨b,off,rfl,hlt,hc⟩:=h.2 hz
 exact ⟨b,off,rfl,Nat.lt_of_lt_of_le hlt hb.size,fun i hi=>⟨keep hb (by omega) (hc i hi).1,keep hb (by omega) (hc i hi).2⟩⟩
theorem Pls.len_pos {w:World} {a:Option Addr} {ps:List (Int × Int)} (h:Pls w a ps) (i:Nat) (hi:i<ps.length):∃ b off,a=some ⟨b,off,none⟩∧b<w.heap.size∧∀ i,i<ps.length→w.cell? ⟨b,off+i*2,none⟩=some (.int .i64 (ps.getD i dp).1)∧w.cell? ⟨b,off+i*2+1,none⟩=some (.int .i64 (ps.getD i dp).2):=h.2 (by omega)
theorem Pls.rng {w:World} {a:Option Addr} {ps:List (Int × Int)} (h:Pls w a ps) (k:Nat) (hk:k<ps.length):rP (ps.getD k dp):=h.1 _ (getD_memP hk)
theorem Pls.alloc {w:World} {a:Option Addr} {ps:List (Int × Int)} (h:Pls w a ps) (o:Obj):Pls (w.alloc o) a ps:=h.below ((Below.refl w.heap.size w).alloc nl o) nl
theorem flatP_len (ps:List (Int × Int)):(ps.flatMap pcs).length=ps.length*2:=by
 induction ps with
 | nil=>rfl
 | cons s ps ih=>rw [List.flatMap_cons,List.length_append,ih,List.length_cons];simp [pcs];omega
theorem flatP_get (ps:List (Int × Int)):∀ k,k<ps.length→(ps.flatMap pcs)[k*2]?=some (.int .i64 (ps.getD k dp).1)∧(ps.flatMap pcs)[k*2+1]?=some (.int .i64 (ps.getD k dp).2):=by
 induction ps with
 | nil=>intro k hk;simp at hk
 | cons s ps ih=>
  intro k hk
  cases k with
  | zero=>simp [List.flatMap_cons,pcs]
  | succ k=>
   have:=ih k (by simpa using hk)
   rw [List.flatMap_cons,show (k+1)*2=k*2+2 from by omega]
   simpa [pcs] using this
theorem flatP_set (s:Int × Int) (ps:List (Int × Int)):∀ k,k<ps.length→((ps.flatMap pcs).set (k*2) (.int .i64 s.1)).set (k*2+1) (.int .i64 s.2)=(ps.set k s).flatMap pcs:=by
 induction ps with
 | nil=>intro k hk;simp at hk
 | cons x ps ih=>
  intro k hk
  cases k with
  | zero=>simp [List.flatMap_cons,pcs]
  | succ k=>
   have:=ih k (by simpa using hk)
   rw [List.set_cons_succ,List.flatMap_cons,List.flatMap_cons,←this,show (k+1)*2=k*2+2 from by omega]
   simp [pcs]
def OVp (w:World) (B:Nat) (v:Value) (ps:List (Int × Int)):Prop:=w.ownsRow B 127 2 v ps.length (ps.flatMap pcs)∧∀ p ∈ ps,rP p
def OwP (w:World) (B g cap:Nat) (ps:List (Int × Int)):Prop:=OVp w B (.slice (some ⟨g,0,none⟩) ps.length cap) ps
section
variable {w w' : World} {B : Nat} {v : Value} {ps : List (Int × Int)} {g cap : Nat}
theorem OVp.blk (h:OVp w B v ps) {k:Nat} (hk:v.ownBlock=some k):B≤k∧k<w.heap.size:=by
 rcases h.1.2 with ⟨rfl,h0⟩ | ⟨g,cap,cur,rfl,hg,hh,_⟩
 ·simp [Value.ownBlock] at hk
 ·simp [Value.ownBlock] at hk
  subst hk
  exact ⟨hg,(Array.getElem?_eq_some_iff.1 hh).1⟩
theorem OVp.stay {S:Nat→Prop} (h:OVp w B v ps) (ho:Only S w w') (hs:∀ k,v.ownBlock=some k→¬S k):OVp w' B v ps:=by
 refine ⟨⟨h.1.1,?_⟩,h.2⟩
 rcases h.1.2 with h' | ⟨g,cap,cur,rfl,hg,hh,r⟩
 ·exact .inl h'
 ·exact .inr ⟨g,cap,cur,rfl,hg,(ho.block g (Array.getElem?_eq_some_iff.1 hh).1 (hs g rfl)).trans hh,r⟩
theorem OVp.below (h:OVp w B v ps) (hb:Below w.heap.size w w'):OVp w' B v ps:=h.stay (Only.ofBelow (S:=fun _=>False) hb nl) (by simp)
theorem OVp.weak {B':Nat} (h:OVp w B v ps) (hB:B'≤B):OVp w B' v ps:=by
 refine ⟨⟨h.1.1,?_⟩,h.2⟩
 rcases h.1.2 with h' | ⟨g,cap,cur,h',hg,r⟩
 ·exact .inl h'
 ·exact .inr ⟨g,cap,cur,h',by omega,r⟩
theorem OwP.lt (h:OwP w B g cap ps):B≤g∧g<w.heap.size:=OVp.blk h rfl
theorem OwP.cell (h:OwP w B g cap ps) (i:Nat) (hi:i<ps.length):w.cell? ⟨g,i*2,none⟩=some (.int .i64 (ps.getD i dp).1)∧w.cell? ⟨g,i*2+1,none⟩=some (.int .i64 (ps.getD i dp).2):=by
 obtain ⟨f0,f1⟩:=flatP_get ps i hi
 exact ⟨by rw [h.1.cellAt (i*2) (by omega),f0],by rw [h.1.cellAt (i*2+1) (by omega),f1]⟩
theorem OwP.pls (h:OwP w B g cap ps):Pls w (some ⟨g,0,none⟩) ps:=⟨h.2,fun _=>⟨g,0,rfl,h.lt.2,fun i hi=>by rw [Nat.zero_add];exact h.cell i hi⟩⟩
theorem OwP.frozen (h:OwP w B g cap ps) (i:Nat):w.frozen? ⟨g,i,none⟩=false:=h.1.frozenAt i
theorem OwP.store (h:OwP w B g cap ps) (k:Nat) (hk:k<ps.length) (p:Int × Int) (hr:rP p):OwP ((w.setCell ⟨g,k*2,none⟩ (.int .i64 p.1)).setCell ⟨g,k*2+1,none⟩ (.int .i64 p.2)) B g cap (ps.set k p):=by
 have r1:=(h.1.stored (k*2) (.int .i64 p.1)).1
 have r2:=(r1.stored (k*2+1) (.int .i64 p.2)).1
 rw [flatP_set p ps k hk] at r2
 refine ⟨by rw [List.length_set];exact r2,?_⟩
 intro t ht
 rcases List.mem_or_eq_of_mem_set ht with ht | rfl
 ·exact h.2 t ht
 ·exact hr
theorem OwP.other (h:OwP w B g cap ps) {p:Addr} (hp:p.block≠g) (u:Value):OwP (w.setCell p u) B g cap ps:=
 OVp.stay h ((Only.refl (fun b=>b=p.block) w).setCell (.inl rfl) u) (fun k hk e=>by
  have:g=k:=by simpa [Value.ownBlock] using hk
  exact hp (by rw [this];exact e.symm))
def MinP (w:World) (B U:Nat) (a:Option Addr) (cap:Nat) (ps:List (Int × Int)):Prop:=
 (a=none∧ps=[]∧cap=0)∨∃ g,a=some ⟨g,0,none⟩∧B≤g∧g<U∧OwP w B g cap ps
variable {a : Option Addr} {U c : Nat}
theorem MinP.pls (h:MinP w B U a cap ps):Pls w a ps:=by
 rcases h with ⟨rfl,rfl,rfl⟩ | ⟨g,rfl,_,_,h⟩
 ·exact ⟨by simp,by simp⟩
 ·exact h.pls
theorem MinP.only {S:Nat→Prop} (h:MinP w B U a cap ps) (ho:Only S w w') (hs:∀ k,B≤k→k<U→¬S k):MinP w' B U a cap ps:=by
 rcases h with h | ⟨g,rfl,h1,h2,h⟩
 ·exact .inl h
 ·exact .inr ⟨g,rfl,h1,h2,OVp.stay h ho (fun k hk=>by
   have:g=k:=by simpa [Value.ownBlock] using hk
   subst this
   exact hs g h1 h2)⟩
theorem MinP.below (h:MinP w B U a cap ps) (ho:Below w.heap.size w w'):MinP w' B U a cap ps:=h.only (Only.ofBelow (S:=fun _=>False) ho nl) (by simp)
theorem MinP.mono {B' U':Nat} (h:MinP w B U a cap ps) (h1:B'≤B) (h2:U≤U'):MinP w B' U' a cap ps:=by
 rcases h with h | ⟨g,rfl,g1,g2,h⟩
 ·exact .inl h
 ·exact .inr ⟨g,rfl,by omega,by omega,OVp.weak h h1⟩
theorem MinP.row (h:MinP w B U a cap ps) {k:Nat} (hk:rowOf a k):B≤k∧k<U:=by
 obtain ⟨x,hx,rfl⟩:=hk
 rcases h with ⟨h',_⟩ | ⟨g,h',g1,g2,_⟩
 ·rw [h'] at hx;cases hx
 ·rw [h'] at hx
  simp at hx
  rw [←hx]
  exact ⟨g1,g2⟩
end
theorem Tryz.infoPl :(Tryz.prog.info? 127).map (fun i=>(i.zero,i.size,i.bytes))=some (some (.agg #[.int .i64 0,.int .i64 0]),2,16):=by kernel_rfl
theorem made_places (n:Nat):(madeCells (Value.agg #[.int .i64 0,.int .i64 0]).cells (n*2)).toList=(List.replicate n dp).flatMap pcs:=by
 apply List.ext_getElem?
 intro i
 by_cases hi:i<n*2
 ·have hd:i / 2<(List.replicate n dp).length:=by simp;omega
  have hg:(List.replicate n dp).getD (i / 2) dp=dp:=by
   rw [List.getD_eq_getElem?_getD,List.getElem?_replicate];split <;> rfl
  obtain ⟨f0,f1⟩:=flatP_get (List.replicate n dp) (i / 2) hd
  rw [hg] at f0 f1
  simp only [madeCells,Array.toList_map,Array.toList_range,List.getElem?_map,List.getElem?_range hi,Option.map_some]
  have h3:i % 2=0∨i % 2=1:=by omega
  rcases h3 with h3 | h3
  ·rw [show i / 2*2=i from by omega] at f0
   rw [f0]
   simp [Value.cells,h3,dp]
  ·rw [show i / 2*2+1=i from by omega] at f1
   rw [f1]
   simp [Value.cells,h3,dp]
 ·rw [List.getElem?_eq_none (by simp [madeCells];omega),List.getElem?_eq_none (by rw [flatP_len];simp;omega)]
theorem rP_dp :rP dp:=by unfold rP dp;simp
theorem OwP.made {w1:World} {B g n:Nat} (h:w1.ownsRow B 127 2 (.slice (some ⟨g,0,none⟩) n n) n (madeCells (Value.agg #[.int .i64 0,.int .i64 0]).cells (n*2)).toList):OwP w1 B g n (List.replicate n dp):=by
 refine ⟨?_,fun p hp=>?_⟩
 ·rw [made_places] at h
  simpa using h
 ·rw [(List.mem_replicate.1 hp).2]
  exact rP_dp
theorem toItem_any (n:Int) (a:Option Addr) (cap:Nat) (zs:List Int) (w:World) (hb:Byt w a zs) (hn:zs.length≤1048576) :
  Calls Tryz.prog 125 #[.agg #[.int .i64 n,.slice a zs.length cap]] w fun e w'=>
   ∃ g,e=.returned (.agg #[.int .i64 n,.slice (some ⟨g,0,none⟩) zs.length zs.length])∧Own w' w.heap.size g zs.length zs∧Below w.heap.size w w':=by
 go_enter Tryz.func125,Tryz.ntmps125
 go_wp2_with fail
 have hw:Below w.heap.size w (((w.alloc (Obj.cells #[.int .i64 n,.slice a zs.length cap] 151)).alloc (Obj.cells #[.int .i64 0,.slice none 0 0] 113)).alloc (Obj.cells #[.int .i64 n,.slice none 0 0] 113)):=
  (((Below.refl _ _).alloc nl _).alloc (by simp) _).alloc (by simp;omega) _
 refine (toByteS_any a cap zs _ (hb.below hw nl) hn).mono ?_
 rintro e w1 ⟨rfl,hown,hbel⟩
 obtain ⟨hc,hf⟩:=bcell hbel
 have hz:=hbel.size
 have hb2:=hw.trans (hbel.mono (by simp;omega))
 simp at hc hf hz hown
 clear hbel hw
 go_wp2
 refine bodyPost_ret (v:=.agg #[.int .i64 n,.slice (some ⟨w.heap.size+1+1+1,0,none⟩) zs.length zs.length]) (by simp [results,Tryz.results125,go_sem,hc]) rfl ⟨_,rfl,?_,?_⟩
 ·refine Own.mono (B:=w.heap.size+1+1+1) ?_ (by omega)
  repeat (refine Own.setCell_other ?_ (by simp) _)
  exact hown
 ·repeat (refine Below.setCell ?_ (by first | (simp;done) | (simp;omega)) _)
  exact hb2
theorem toItemS_any (a:Option Addr) (cap:Nat) (ss:List El) (w:World) (hb:Els true w a ss) (hn:ss.length≤1048576) (hl:∀ s ∈ ss,s.ls.length≤1048576) :
  Calls Tryz.prog 86 #[.slice a ss.length cap] w fun e w'=>
   e=.returned (.slice (some ⟨w.heap.size,0,none⟩) ss.length ss.length)∧(∃ ts,CopT w' w.heap.size (.slice (some ⟨w.heap.size,0,none⟩) ss.length ss.length) ts ss)∧Below w.heap.size w w':=by
 obtain ⟨i0,hi,hz0,hz1,hz2⟩:=info_parts Tryz.infoItem
 have HSS:Hid (Els true w a ss):=hb
 have HLS:Hid (∀ s ∈ ss,s.ls.length≤1048576):=hl
 clear hb hl
 generalize hlen:ss.length=n at *
 have HL:Hid (ss.length=n∧True):=⟨hlen,trivial⟩
 clear hlen
 go_enter Tryz.func86,Tryz.ntmps86
 go_wp2_with (at_make;refine wpList_make_full _ rfl _ _ 45 rfl w.heap.size 113 i0 (.agg #[.int .i64 0,.slice none 0 0]) 2 Tryz.underlying45 hi hz0 hz1 .i64 .i64 _ _ n rfl rfl rfl rfl (by rw [hz2];omega) (by unfold maxLen;omega) nl ?_;intro w1 hown hgrow)
 have hbw:Below w.heap.size w w1:=(Below.refl _ _).grown hgrow nl (by intro k hk;cases hk)
 have H0:Hid (OVt w1 w.heap.size (.slice (some ⟨w.heap.size,0,none⟩) n n) ([]++List.replicate n de)):=by
  rw [List.nil_append]
  rw [made_pens] at hown
  exact ⟨by rw [List.length_replicate];exact hown⟩
 clear hown hgrow hi hz0 hz1 hz2
 go_loopw [4] (fun i wr=>∃ (k:Nat) (bs:List El),k≤n∧i=.int .i64 k∧bs.length=k∧bs.map El.ct=(ss.take k).map El.ct∧OVt wr w.heap.size (.slice (some ⟨w.heap.size,0,none⟩) n n) (bs++List.replicate (n-k) de)∧Deep wr w.heap.size bs∧(∀ e ∈ bs,rE true e)∧Below w.heap.size w wr) (fun i _=>n-(intOf i).toNat)
 case atStart=>exact ⟨0,[],Nat.zero_le _,rfl,rfl,by simp,H0.out,Deep.nil _ _,by simp,hbw⟩
 case round=>
  clear H0 hbw
  obtain ⟨k,bs,hk,rfl,hbl,hct,hown,hdeep,hrg0,hbel⟩:=hrel
  have HBL:Hid (bs.length=k∧bs.map El.ct=(ss.take k).map El.ct):=⟨hbl,hct⟩
  have HO:Hid (OVt wr w.heap.size (.slice (some ⟨w.heap.size,0,none⟩) n n) (bs++List.replicate (n-k) de)∧Deep wr w.heap.size bs∧(∀ e ∈ bs,rE true e)):=⟨hown,hdeep,hrg0⟩
  clear hbl hct hown hdeep hrg0
  by_cases hlt:k<n
  ·obtain ⟨b,off,rfl,hb1,c0,c1,hby,hrg⟩:=(HSS.out.below hbel nl).pen k (by rw [HL.out.1];exact hlt)
   have hll:=HLS.out _ (getD_memE (k:=k) (by rw [HL.out.1];exact hlt))
   have HCS:Hid ((ss.take (k+1)).map El.ct=(ss.take k).map El.ct++[(ss.getD k de).ct]∧True):=⟨ctE_take_succ ss k (by rw [HL.out.1];exact hlt),trivial⟩
   generalize ss.getD k de=s at *
   obtain ⟨sn,sa,sc,sl⟩:=s
   simp only at c0 c1 hby hll
   have HRG:Hid (rE true ⟨sn,sa,sc,sl⟩):=hrg
   have HBY:Hid (Byt wr sa sl):=hby
   clear hrg hby
   go_wp2_with fail
   refine (toItem_any sn sa sc sl wr HBY.out hll).mono ?_
   rintro e w2 ⟨g2,rfl,ho2,hb2⟩
   have hlt2:=ho2.lt
   have hlo:(bs++List.replicate (n-k) de).length=n:=by rw [List.length_append,List.length_replicate,HBL.out.1];omega
   have hgd:=getD_app_replE bs (n-k) k (by rw [HBL.out.1];exact Nat.le_refl _)
   have hO2:OVt w2 w.heap.size (.slice (some ⟨w.heap.size,0,none⟩) n n) (bs++List.replicate (n-k) de):=HO.out.1.below hb2
   have hs1:=hO2.store k (by omega) ⟨sn,none,0,[]⟩ 0 (by simp [eW]) (.int .i64 sn) (by rw [hgd];rfl) (g:=w.heap.size) rfl
   have hst:=hs1.store k (by rw [List.length_set];omega) ⟨sn,some ⟨g2,0,none⟩,sl.length,sl⟩ 1 (by simp [eW]) (.slice (some ⟨g2,0,none⟩) sl.length sl.length) (by rw [List.getD_eq_getElem?_getD,List.getElem?_set_self (by omega)];rfl) (g:=w.heap.size) rfl
   rw [List.set_set,set_app_replE bs (n-k) k _ HBL.out.1 (by omega),show n-k-1=n-(k+1) from by omega,show k*eW true+0=k*2 from by simp [eW],show k*eW true+1=k*2+1 from by simp [eW]] at hst
   have hdp:Deep w2 w.heap.size (bs++[⟨sn,some ⟨g2,0,none⟩,sl.length,sl⟩]):=(HO.out.2.1.below hb2).snoc (U:=wr.heap.size) (.inr ⟨_,rfl,hlt2.1,hlt2.2,ho2⟩) (fun x hx k hk=>HO.out.2.1.lt x hx k hk) hbel.size
   have HDP:Hid (Deep ((w2.setCell ⟨w.heap.size,k*2,none⟩ (.int .i64 sn)).setCell ⟨w.heap.size,k*2+1,none⟩ (.slice (some ⟨g2,0,none⟩) sl.length sl.length)) w.heap.size (bs++[⟨sn,some ⟨g2,0,none⟩,sl.length,sl⟩])):=
    hdp.stay (S:=fun b=>b=w.heap.size) (((Only.refl (fun b=>b=w.heap.size) w2).setCell (p:=⟨w.heap.size,k*2,none⟩) (.inl rfl) _).setCell (p:=⟨w.heap.size,k*2+1,none⟩) (.inl rfl) _) (fun x hx j hj e=>hO2.other (hdp.mine x hx) (g:=w.heap.size) rfl (e ▸ hj))
   have HST:Hid _:=hst
   obtain ⟨g',cap',e',_,_,hfz,hli⟩:=hO2.cell k (by omega)
   obtain ⟨rfl,-,rfl⟩:w.heap.size=g'∧_∧n=cap':=by simpa using e'
   have f0:=hfz (k*2)
   have f1:=hfz (k*2+1)
   have l1:=(hli k (by omega)).c0 rfl
   have l2:=(hli k (by omega)).c1
   rw [hgd] at l1 l2
   simp only [eW,eO,cond_true] at l1 l2
   have HB2:Hid (Below w.heap.size w w2):=hbel.trans (hb2.mono hbel.size)
   have HRN:Hid (∀ e ∈ bs++[⟨sn,some ⟨g2,0,none⟩,sl.length,sl⟩],rE true e):=rE_snoc HO.out.2.2 ⟨HRG.out.lo,HRG.out.hi,HRG.out.len,HRG.out.zero⟩
   clear hst hs1 hO2 ho2 hb2 HO hbel HBY c0 c1 hdp hfz hli e' HRG hlo hgd
   go_wp2
   go_roundw
   case rel=>exact ⟨k+1,bs++[⟨sn,some ⟨g2,0,none⟩,sl.length,sl⟩],by omega,by go_num,by rw [List.length_append,HBL.out.1];rfl,by rw [List.map_append,HBL.out.2,HCS.out.1];rfl,HST.out,HDP.out,HRN.out,(HB2.out.setCell (p:=⟨w.heap.size,_,none⟩) nl _).setCell (p:=⟨w.heap.size,_,none⟩) nl _⟩
   case measure=>simp [intOf];omega
  ·have hkn:k=n:=by omega
   subst hkn
   have HA:Hid (CopT wr w.heap.size (.slice (some ⟨w.heap.size,0,none⟩) k k) bs ss):=by
    have h1:=HO.out.1
    rw [Nat.sub_self,List.replicate_zero,List.append_nil] at h1
    exact ⟨by rw [HBL.out.2,List.take_of_length_le (by rw [HL.out.1];exact Nat.le_refl _)],h1,HO.out.2.1,HO.out.2.2⟩
   clear HO
   go_wp2
   go_ret
   exact ⟨rfl,⟨bs,HA.out⟩,hbel⟩
theorem toPack_any (E O:Int) (a:Option Addr) (cap:Nat) (es:List El) (w:World) (hb:Els true w a es) (hn:es.length≤1048576) (hl:∀ s ∈ es,s.ls.length≤1048576) :
  Calls Tryz.prog 49 #[.agg #[.int .i64 E,.int .i64 O,.slice a es.length cap]] w fun e w'=>
   (∃ g ts,e=.returned (.agg #[.int .i64 E,.int .i64 O,.slice (some ⟨g,0,none⟩) es.length es.length])∧CopT w' w.heap.size (.slice (some ⟨g,0,none⟩) es.length es.length) ts es)∧Below w.heap.size w w':=by
 have HB:Hid (Els true w a es):=hb
 have HL:Hid (∀ s ∈ es,s.ls.length≤1048576):=hl
 clear hb hl
 go_enter Tryz.func49,Tryz.ntmps49
 go_wp2_with fail
 have hw:Below w.heap.size w (((w.alloc (Obj.cells #[.int .i64 E,.int .i64 O,.slice a es.length cap] 32)).alloc (Obj.cells #[.int .i64 0,.int .i64 0,.slice none 0 0] 47)).alloc (Obj.cells #[.int .i64 E,.int .i64 O,.slice none 0 0] 47)):=
  (((Below.refl _ _).alloc nl _).alloc (by simp) _).alloc (by simp;omega) _
 refine (toItemS_any a cap es _ (HB.out.below hw nl) hn HL.out).mono ?_
 rintro e w1 ⟨rfl,⟨ts,hcop⟩,hbel⟩
 obtain ⟨hc,hf⟩:=bcell hbel
 have hz:=hbel.size
 have HB2:Hid (Below w.heap.size w w1):=hw.trans (hbel.mono (by simp;omega))
 simp at hc hf hz hcop
 have HC:Hid _:=hcop
 clear hbel hw hcop
 go_wp2
 refine bodyPost_ret (v:=.agg #[.int .i64 E,.int .i64 O,.slice (some ⟨w.heap.size+1+1+1,0,none⟩) es.length es.length]) (by simp [results,Tryz.results49,go_sem,hc]) rfl ⟨⟨_,ts,rfl,?_⟩,?_⟩
 ·refine (HC.out.stay (S:=fun b=>b=w.heap.size+1∨b=w.heap.size+1+1) ?_ (by intro k hk;omega)).weak (by omega)
  repeat (first | exact Only.refl _ _ | refine Only.setCell ?_ (by first | exact .inl (.inl rfl) | exact .inl (.inr rfl)) _)
 ·have hb2:=HB2.out
  repeat (first | exact hb2 | refine Below.setCell ?_ (by first | (simp;done) | (simp;omega)) _)
theorem szItem_any (n:Int) (a:Option Addr) (cap:Nat) (zs:List Int) (left:Int) (w:World) (hn:zs.length≤maxLen) (h0:0≤left) (h1:left≤1048576) :
  Calls Tryz.prog 114 #[.agg #[.int .i64 n,.slice a zs.length cap],.int .i64 left] w fun e w'=>e=.returned (.int .i64 (if (zs.length:Int)≤left then left-zs.length else -1))∧Below w.heap.size w w':=by
 by_cases h:(zs.length:Int)≤left
 ·go_enter Tryz.func114,Tryz.ntmps114
  go_wp2_with (go_at_call 112;refine (szByteS_any _ _ _ _ _ hn h0 h1).mono ?_;rintro e w' ⟨rfl,rfl⟩;rw [if_pos h])
  go_ret
  exact ⟨rfl,(Below.refl _ _).alloc nl _⟩
 ·go_enter Tryz.func114,Tryz.ntmps114
  go_wp2_with (go_at_call 112;refine (szByteS_any _ _ _ _ _ hn h0 h1).mono ?_;rintro e w' ⟨rfl,rfl⟩;rw [if_neg h])
  go_ret
  exact ⟨rfl,(Below.refl _ _).alloc nl _⟩
theorem szItemS_any (a:Option Addr) (cap:Nat) (ss:List El) (left:Int) (w:World) (hb:Els true w a ss) (hm:ss.length≤maxLen) (h0:0≤left) (h1:left≤1048576) :
  Calls Tryz.prog 75 #[.slice a ss.length cap,.int .i64 left] w fun e w'=>(∃ z:Int,e=.returned (.int .i64 z)∧(z=-1∨(0≤z∧z≤left∧z+ss.length+elets ss=left)))∧Below w.heap.size w w':=by
 have HSS:Hid (Els true w a ss):=hb
 unfold maxLen at hm
 clear hb
 have HEL:Hid (elets (ss.take ss.length)=elets ss∧True):=⟨by rw [List.take_length],trivial⟩
 generalize hlen:ss.length=n at *
 have HL:Hid (ss.length=n∧True):=⟨hlen,trivial⟩
 clear hlen
 by_cases hn:(n:Int)≤left
 ·go_enter Tryz.func75,Tryz.ntmps75
  go_wp2
  go_loopw [1,5] (fun l i wr=>∃ (k:Nat) (z:Int),k≤n∧i=.int .i64 k∧l=.int .i64 z∧0≤z∧z≤1048576∧z≤left∧(n:Int)+(elets (ss.take k):Nat)+z=left∧Below w.heap.size w wr) (fun _ i _=>n-(intOf i).toNat)
  case atStart=>exact ⟨0,left-n,Nat.zero_le _,rfl,rfl,by omega,by omega,by omega,by simp [elets];omega,Below.refl _ _⟩
  case round=>
   obtain ⟨k,z,hk,rfl,rfl,hz0,hz1,hz2,hsum,hbel⟩:=hrel
   have HSUM:Hid ((n:Int)+(elets (ss.take k):Nat)+z=left∧True):=⟨hsum,trivial⟩
   clear hsum
   by_cases hlt:k<n
   ·obtain ⟨b,off,rfl,hb1,c0,c1,hby,hrg⟩:=(HSS.out.below hbel nl).pen k (by rw [HL.out.1];exact hlt)
    have HT:Hid (elets (ss.take (k+1))=elets (ss.take k)+(ss.getD k de).ls.length∧True):=⟨elets_take_succ ss k (by rw [HL.out.1];exact hlt),trivial⟩
    generalize ss.getD k de=s at *
    obtain ⟨sn,sa,sc,sl⟩:=s
    simp only at c0 c1 HT
    have hml:=hrg.len
    simp only at hml
    clear hby hrg
    have HSZ:=szItem_any sn sa sc sl z wr hml hz0 hz1
    go_wp2_with fail
    refine HSZ.mono ?_
    clear HSZ
    rintro e w1 ⟨rfl,hb2⟩
    have HB2:Hid (Below w.heap.size w w1):=hbel.trans (hb2.mono hbel.size)
    clear hb2 hbel c0 c1
    by_cases hc:(sl.length:Int)≤z
    ·rw [if_pos hc]
     have HS2:Hid ((n:Int)+(elets (ss.take (k+1)):Nat)+(z-sl.length)=left∧True):=by
      have h1:=HSUM.out.1
      have h2:=HT.out.1
      exact ⟨by omega,trivial⟩
     go_wp2
     go_roundw
     case rel=>exact ⟨k+1,z-sl.length,by omega,by go_num,rfl,by omega,by omega,by omega,HS2.out.1,HB2.out⟩
     case measure=>simp [intOf];omega
    ·rw [if_neg hc]
     go_wp2
     go_ret
     exact ⟨⟨-1,rfl,.inl rfl⟩,HB2.out⟩
   ·have hkn:k=n:=by omega
    subst hkn
    have HF:Hid (z+(k:Int)+elets ss=left∧True):=by
     have h1:=HSUM.out.1
     rw [HEL.out.1] at h1
     exact ⟨by omega,trivial⟩
    go_wp2
    go_ret
    exact ⟨⟨z,rfl,.inr ⟨hz0,hz2,HF.out.1⟩⟩,hbel⟩
 ·go_enter Tryz.func75,Tryz.ntmps75
  go_wp2
  go_ret
  exact ⟨⟨-1,rfl,.inl rfl⟩,Below.refl _ _⟩
theorem szPack_any (E O:Int) (a:Option Addr) (cap:Nat) (es:List El) (w:World) (hb:Els true w a es) (hm:es.length≤maxLen) (left:Int) (h0:0≤left) (h1:left≤1048576) :
  Calls Tryz.prog 43 #[.agg #[.int .i64 E,.int .i64 O,.slice a es.length cap],.int .i64 left] w fun e w'=>(∃ z:Int,e=.returned (.int .i64 z)∧(z=-1∨(0≤z∧z≤left∧z+es.length+elets es=left)))∧Below w.heap.size w w':=by
 have hw:Below w.heap.size w (w.alloc (Obj.cells #[.int .i64 E,.int .i64 O,.slice a es.length cap] 32)):=ba
 have HS:=szItemS_any a cap es left _ (hb.below hw nl) hm h0 h1
 clear hb hm
 go_enter Tryz.func43,Tryz.ntmps43
 go_wp2_with fail
 refine HS.mono ?_
 clear HS
 rintro e w1 ⟨⟨z,rfl,hz⟩,hb1⟩
 have HB1:Hid (Below w.heap.size w w1):=hw.trans (hb1.mono (by simp))
 clear hw hb1
 rcases hz with rfl | ⟨hz0,hz1,hz2⟩
 ·go_wp2
  go_ret
  exact ⟨⟨-1,rfl,.inl rfl⟩,HB1.out⟩
 ·have HZ:Hid (z+(es.length:Int)+elets es=left∧True):=⟨hz2,trivial⟩
  clear hz2
  go_wp2
  go_ret
  exact ⟨⟨z,rfl,.inr ⟨hz0,hz1,HZ.out.1⟩⟩,HB1.out⟩
set_option linter.unusedSimpArgs false
structure DkV where
 sa:Option Addr
 sc:Nat
 ss:List El
 pa:Option Addr
 pc:Nat
 ps:List El
 E:Int
 O:Int
 ma:Option Addr
 mc:Nat
 ms:List (Int × Int)
 va:Option Addr
 vc:Nat
 vs:List (Int × Int)
 ca:Option Addr
 cc:Nat
 cs:List Int
 F:Int
 G:Int
 oa:Option Addr
 oc:Nat
 os:List El
def DkV.cells (d:DkV):Array Value:=#[.slice d.sa d.ss.length d.sc,.slice d.pa d.ps.length d.pc,.int .i64 d.E,.int .i64 d.O,.slice d.ma d.ms.length d.mc,.slice d.va d.vs.length d.vc,.slice d.ca d.cs.length d.cc,.int .i64 d.F,.int .i64 d.G,.slice d.oa d.os.length d.oc]
structure DkI (w:World) (d:DkV):Prop where
 raw:RawI w d.sa d.pa d.ss d.ps
 map:Pls w d.ma d.ms
 sav:Pls w d.va d.vs
 chn:Ins w d.ca d.cs
 opn:Els true w d.oa d.os
theorem DkI.below {w w':World} {d:DkV} {B:Nat} (h:DkI w d) (hb:Below B w w') (hB:w.heap.size≤B):DkI w' d:=
 ⟨h.raw.below hb hB,h.map.below hb hB,h.sav.below hb hB,h.chn.below hb hB,h.opn.below hb hB⟩
structure DkM (d:DkV):Prop where
 ss:d.ss.length≤maxLen
 ps:d.ps.length≤maxLen
 ms:d.ms.length≤maxLen
 vs:d.vs.length≤maxLen
 cs:d.cs.length≤maxLen
 os:d.os.length≤maxLen
def dkN (d:DkV):Nat:=d.ss.length+elets d.ss+d.ps.length+elets d.ps+d.ms.length+d.vs.length+d.cs.length+d.os.length+elets d.os
structure DkF (d:DkV):Prop where
 raw:Few d.ss d.ps
 ms:d.ms.length≤1048576
 vs:d.vs.length≤1048576
 cs:d.cs.length≤1048576
 opn:FewI d.os
 sum:dkN d≤1048576
theorem DkF.mk' {d:DkV} (h:dkN d≤1048576):DkF d:=by
 unfold dkN at h
 exact ⟨Few.mk' (by omega),by omega,by omega,by omega,FewI.mk' (by omega),h⟩
structure DkS (d e:DkV):Prop where
 ss:d.ss.map El.ct=e.ss.map El.ct
 ps:d.ps.map El.ct=e.ps.map El.ct
 E:d.E=e.E
 O:d.O=e.O
 ms:d.ms=e.ms
 vs:d.vs=e.vs
 cs:d.cs=e.cs
 F:d.F=e.F
 G:d.G=e.G
 os:d.os.map El.ct=e.os.map El.ct
theorem DkS.symm {d e:DkV} (h:DkS d e):DkS e d:=⟨h.ss.symm,h.ps.symm,h.E.symm,h.O.symm,h.ms.symm,h.vs.symm,h.cs.symm,h.F.symm,h.G.symm,h.os.symm⟩
theorem DkS.trans {d e f:DkV} (h:DkS d e) (k:DkS e f):DkS d f:=⟨h.ss.trans k.ss,h.ps.trans k.ps,h.E.trans k.E,h.O.trans k.O,h.ms.trans k.ms,h.vs.trans k.vs,h.cs.trans k.cs,h.F.trans k.F,h.G.trans k.G,h.os.trans k.os⟩
theorem DkS.n {d e:DkV} (h:DkS d e):dkN d=dkN e:=by
 unfold dkN
 rw [len_ctE h.ss,len_ctE h.ps,len_ctE h.os,elets_ct _ _ h.ss,elets_ct _ _ h.ps,elets_ct _ _ h.os,h.ms,h.vs,h.cs]
theorem DkF.same {d e:DkV} (h:DkF d) (hs:DkS e d):DkF e:=DkF.mk' (by rw [hs.n];exact h.sum)
structure Dk10 (W:World) (b:Nat) (d:DkV):Prop where
 c0:W.cell? ⟨b,0,none⟩=some (.slice d.sa d.ss.length d.sc)
 c1:W.cell? ⟨b,1,none⟩=some (.slice d.pa d.ps.length d.pc)
 c2:W.cell? ⟨b,2,none⟩=some (.int .i64 d.E)
 c3:W.cell? ⟨b,3,none⟩=some (.int .i64 d.O)
 c4:W.cell? ⟨b,4,none⟩=some (.slice d.ma d.ms.length d.mc)
 c5:W.cell? ⟨b,5,none⟩=some (.slice d.va d.vs.length d.vc)
 c6:W.cell? ⟨b,6,none⟩=some (.slice d.ca d.cs.length d.cc)
 c7:W.cell? ⟨b,7,none⟩=some (.int .i64 d.F)
 c8:W.cell? ⟨b,8,none⟩=some (.int .i64 d.G)
 c9:W.cell? ⟨b,9,none⟩=some (.slice d.oa d.os.length d.oc)
 lt:b<W.heap.size
theorem Dk10.keep {W W':World} {b B:Nat} {d:DkV} (h:Dk10 W b d) (hb:Below B W W') (hB:b<B):Dk10 W' b d:=⟨kp hb hB h.c0,kp hb hB h.c1,kp hb hB h.c2,kp hb hB h.c3,kp hb hB h.c4,kp hb hB h.c5,kp hb hB h.c6,kp hb hB h.c7,kp hb hB h.c8,kp hb hB h.c9,Nat.lt_of_lt_of_le h.lt hb.size⟩
theorem Dk10.step {W W':World} {b:Nat} {d:DkV} (h:Dk10 W b d) (hb:Below W.heap.size W W'):Dk10 W' b d:=h.keep hb h.lt
theorem Dk10.new (w:World) (d:DkV) (T:TypeId):Dk10 (w.alloc (Obj.cells #[.slice d.sa d.ss.length d.sc,.slice d.pa d.ps.length d.pc,.int .i64 d.E,.int .i64 d.O,.slice d.ma d.ms.length d.mc,.slice d.va d.vs.length d.vc,.slice d.ca d.cs.length d.cc,.int .i64 d.F,.int .i64 d.G,.slice d.oa d.os.length d.oc] T)) w.heap.size d:=⟨by simp,by simp,by simp,by simp,by simp,by simp,by simp,by simp,by simp,by simp,by simp⟩
theorem Dk10.alloc {W:World} {b:Nat} {d:DkV} (h:Dk10 W b d) (o:Obj):Dk10 (W.alloc o) b d:=h.step ((Below.refl W.heap.size W).alloc nl o)
theorem Dk10.drew {W:World} {b:Nat} {d:DkV} (h:Dk10 W b d):Dk10 W.drew b d:=h.step ((Below.refl W.heap.size W).drew)
structure RawV (W:World) (B X:Nat) (vs vp:Value) (ss ps:List El):Prop where
 o:RawO W B vs vp ss ps
 r:∀ k,blkR vs vp ss ps k→k<X
theorem RawO.v {W:World} {B:Nat} {vs vp:Value} {ss ps:List El} (h:RawO W B vs vp ss ps):RawV W B W.heap.size vs vp ss ps:=⟨h,fun k hk=>(h.inside k hk).2⟩
theorem RawV.stab {lo hi B X:Nat} {vs vp:Value} {ss ps:List El} (h1:lo≤B) (h2:X≤hi):Stab lo hi (fun W=>RawV W B X vs vp ss ps):=fun T W W' hp ho ht hl=>
 ⟨hp.o.stay ho (fun k hk=>ht k (by have:=(hp.o.inside k hk).1;omega) (by have:=hp.r k hk;omega)),hp.r⟩
theorem stab_minP {lo hi B U:Nat} {a:Option Addr} {c:Nat} {zs:List (Int × Int)} (h1:lo≤B) (h2:U≤hi):Stab lo hi (fun W=>MinP W B U a c zs):=fun T W W' hp ho ht hl=>hp.only ho (fun k hk1 hk2=>ht k (by omega) (by omega))
structure DkO (W:World) (B B1 B2 B3 B4 Z:Nat) (d:DkV):Prop where
 raw:RawV W B B1 (.slice d.sa d.ss.length d.sc) (.slice d.pa d.ps.length d.pc) d.ss d.ps
 map:MinP W B1 B2 d.ma d.mc d.ms
 sav:MinP W B2 B3 d.va d.vc d.vs
 chn:MinI W B3 B4 d.ca d.cc d.cs
 opn:CopV W B4 Z (.slice d.oa d.os.length d.oc) d.os d.os
 ord:B≤B1∧B1≤B2∧B2≤B3∧B3≤B4∧B4≤Z
theorem DkO.stab {lo hi B B1 B2 B3 B4 Z:Nat} {d:DkV} (h1:lo≤B) (h2:Z≤hi):Stab lo hi (fun W=>DkO W B B1 B2 B3 B4 Z d):=fun T W W' hp ho ht hl=>by
 have o:=hp.ord
 exact ⟨RawV.stab (by omega) (by omega) T W W' hp.raw ho ht hl,stab_minP (by omega) (by omega) T W W' hp.map ho ht hl,stab_minP (by omega) (by omega) T W W' hp.sav ho ht hl,Stab.minI (by omega) (by omega) T W W' hp.chn ho ht hl,CopV.stab (by omega) (by omega) T W W' hp.opn ho ht hl,o⟩
theorem DkO.inn {W:World} {B B1 B2 B3 B4 Z:Nat} {d:DkV} (h:DkO W B B1 B2 B3 B4 Z d):DkI W d:=⟨h.raw.o.inn,h.map.pls,h.sav.pls,h.chn.byt,h.opn.cop.its.els⟩
theorem DkO.its {W:World} {B B1 B2 B3 B4 Z:Nat} {d:DkV} (h:DkO W B B1 B2 B3 B4 Z d):ItI W d.oa d.os:=h.opn.cop.its
def okB (N:Int) (zs:List Int):Bool:=
 decide (0≤N∧N≤4096∧(zs.length:Int)=(N+7) / 8) && (N % 8 == 0 || zs.getD (zs.length-1) 0 / 2 ^ (N % 8).toNat == 0)
theorem okB_neg {N:Int} {zs:List Int} (h:N<0):okB N zs=false:=by
 have:decide (0≤N∧N≤4096∧(zs.length:Int)=(N+7) / 8)=false:=by simp;omega
 rw [okB,this,Bool.false_and]
theorem okB_big {N:Int} {zs:List Int} (h:4096<N):okB N zs=false:=by
 have:decide (0≤N∧N≤4096∧(zs.length:Int)=(N+7) / 8)=false:=by simp;omega
 rw [okB,this,Bool.false_and]
theorem okB_len {N:Int} {zs:List Int} (h:¬(zs.length:Int)=(N+7) / 8):okB N zs=false:=by
 have:decide (0≤N∧N≤4096∧(zs.length:Int)=(N+7) / 8)=false:=by simp;omega
 rw [okB,this,Bool.false_and]
theorem okB_full {N:Int} {zs:List Int} (h0:0≤N) (h1:N≤4096) (h2:(zs.length:Int)=(N+7) / 8) (h3:N % 8=0):okB N zs=true:=by
 have:decide (0≤N∧N≤4096∧(zs.length:Int)=(N+7) / 8)=true:=by simp;exact ⟨h0,h1,h2⟩
 rw [okB,this,h3];rfl
theorem okB_last {N:Int} {zs:List Int} (h0:0≤N) (h1:N≤4096) (h2:(zs.length:Int)=(N+7) / 8) (h3:¬N % 8=0):okB N zs=(zs.getD (zs.length-1) 0 / 2 ^ (N % 8).toNat == 0):=by
 have:decide (0≤N∧N≤4096∧(zs.length:Int)=(N+7) / 8)=true:=by simp;exact ⟨h0,h1,h2⟩
 have h3':(N % 8 == 0)=false:=by simpa using h3
 rw [okB,this,h3',Bool.true_and,Bool.false_or]
theorem specOk_any (a:Option Addr) (cap:Nat) (zs:List Int) (N:Int) (w:World) (hb:Byt w a zs) (hn:zs.length≤281474976710656) :
  Calls Tryz.prog 155 #[.agg #[.slice a zs.length cap,.int .i64 N]] w fun e w'=>e=.returned (.bool (okB N zs))∧Below w.heap.size w w':=by
 have hw:Below w.heap.size w (w.alloc (Obj.cells #[.slice a zs.length cap,.int .i64 N] 155)):=ba
 by_cases h0:N<0
 ·have hE:okB N zs=false:=okB_neg h0
  rw [hE]
  clear hE
  go_enter Tryz.func155,Tryz.ntmps155
  go_wp2
  go_ret
  exact ⟨rfl,hw⟩
 ·by_cases h1:4096<N
  ·have hE:okB N zs=false:=okB_big h1
   rw [hE]
   clear hE
   go_enter Tryz.func155,Tryz.ntmps155
   go_wp2
   go_ret
   exact ⟨rfl,hw⟩
  ·by_cases h2:(zs.length:Int)=(N+7) / 8
   ·generalize hlz:zs.length=n at *
    have HL:Hid (zs.length=n):=hlz
    clear hlz
    have h2':((n:Int) != (N+7) / 8)=false:=by simpa using h2
    have H2:Hid ((n:Int)=(N+7) / 8):=h2
    clear h2
    by_cases h3:N % 8=0
    ·have hE:okB N zs=true:=okB_full (by omega) (by omega) (by rw [HL.out];exact H2.out) h3
     have h3':(N % 8 == 0)=true:=by simpa using h3
     rw [hE]
     clear hE h3
     go_enter Tryz.func155,Tryz.ntmps155
     go_wp2
     go_quiet (fail)
     go_wp2
     go_ret
     exact ⟨rfl,below_drewN hw _⟩
    ·have hn1:1≤n:=by have:=H2.out;omega
     have h3':(N % 8 == 0)=false:=by simpa using h3
     obtain ⟨b,off,rfl,hbl,hc⟩:=hb.len_pos (n-1) (by rw [HL.out];omega)
     have hlast:=hc (n-1) (by rw [HL.out];omega)
     have hr:=getD_rng hb.1 (n-1)
     have hE:okB N zs=(zs.getD (n-1) 0 / 2 ^ (N % 8).toNat == 0):=by
      rw [okB_last (by omega) (by omega) (by rw [HL.out];exact H2.out) h3,HL.out]
     rw [hE]
     clear hE
     generalize zs.getD (n-1) 0=z at *
     go_enter Tryz.func155,Tryz.ntmps155
     go_wp2
     go_quiet (fail)
     go_wp2
     go_ret
     exact ⟨rfl,below_drewN hw _⟩
   ·have hE:okB N zs=false:=okB_len h2
    have h2':((zs.length:Int) != (N+7) / 8)=true:=by rw [bne_iff_ne];exact h2
    rw [hE]
    clear hE h2
    go_enter Tryz.func155,Tryz.ntmps155
    go_wp2
    go_ret
    exact ⟨rfl,hw⟩
theorem addr_add (b off j:Nat):(⟨b,off,none⟩:Addr).add j=⟨b,off+j,none⟩:=by unfold Addr.add;split <;> simp_all
theorem news_of {w:World} {b off:Nat} {zs:List Int} (hc:∀ i,i<zs.length→w.cell? ⟨b,off+i,none⟩=some (.int .u8 (zs.getD i 0))) :
  ∀ j u,(zs.map (Value.int .u8))[j]?=some u→w.cell? ((⟨b,off,none⟩:Addr).add j)=some u:=by
 intro j u hu
 have hj:j<zs.length:=by
  rcases Nat.lt_or_ge j zs.length with h | h
  ·exact h
  ·rw [List.getElem?_eq_none (by simpa using h)] at hu;cases hu
 rw [addr_add,hc j hj]
 simp [hj] at hu
 simp [hj,←hu]
theorem oneCells (zs:List Int):∀ u ∈ zs.map (Value.int .u8),u.oneCell'=true:=by
 intro u hu
 simp only [List.mem_map] at hu
 obtain ⟨z,_,rfl⟩:=hu
 rfl
end Go.Proofs.YtaibkchbkedjnaaGreatDoor
namespace Go.Proofs.YtaibkchbkedjnaaGreatDoor
def val :List Int→Nat
 | []=>0
 | z :: r=>z.toNat+256*val r
def encL :Nat→Nat→List Int
 | 0,_=>[]
 | k+1,v=>((v % 256:Nat):Int) :: encL k (v / 256)
def enc (n v:Nat):List Int:=encL ((n+7) / 8) v
theorem encL_len (k v:Nat):(encL k v).length=k:=by
 induction k generalizing v with
 | zero=>rfl
 | succ k ih=>simp [encL,ih]
theorem enc_len (n v:Nat):(enc n v).length=(n+7) / 8:=encL_len _ _
theorem encL_rng (k v:Nat):∀ z ∈ encL k v,0≤z∧z≤255:=by
 induction k generalizing v with
 | zero=>intro z hz;cases hz
 | succ k ih=>
  intro z hz
  simp only [encL,List.mem_cons] at hz
  rcases hz with rfl | hz
  ·omega
  ·exact ih _ z hz
theorem encL_get (k v i:Nat) (h:i<k):(encL k v).getD i 0=((v / 256 ^ i % 256:Nat):Int):=by
 induction k generalizing v i with
 | zero=>omega
 | succ k ih=>
  cases i with
  | zero=>simp [encL]
  | succ i=>
   have:=ih (v / 256) i (by omega)
   simp only [encL,List.getD_cons_succ,this]
   rw [Nat.div_div_eq_div_mul,Nat.pow_succ,Nat.mul_comm]
theorem val_encL (k v:Nat):val (encL k v)=v % 256 ^ k:=by
 induction k generalizing v with
 | zero=>simp [encL,val,Nat.mod_one]
 | succ k ih=>
  simp only [encL,val,ih,Int.toNat_natCast]
  rw [Nat.pow_succ,Nat.mul_comm (256 ^ k) 256,Nat.mod_mul]
theorem encL_val (zs:List Int) (h:∀ z ∈ zs,0≤z∧z≤255):encL zs.length (val zs)=zs:=by
 induction zs with
 | nil=>rfl
 | cons z r ih=>
  have hz:=h z (by simp)
  have hr:=ih (fun y hy=>h y (by simp [hy]))
  simp only [List.length_cons,encL,val]
  rw [show (z.toNat+256*val r) % 256=z.toNat from by omega,show (z.toNat+256*val r) / 256=val r from by omega,hr]
  congr 1
  omega
theorem val_lt (zs:List Int) (h:∀ z ∈ zs,0≤z∧z≤255):val zs<256 ^ zs.length:=by
 induction zs with
 | nil=>simp [val]
 | cons z r ih=>
  have hz:=h z (by simp)
  have hr:=ih (fun y hy=>h y (by simp [hy]))
  simp only [List.length_cons,val,Nat.pow_succ]
  omega
theorem encL_mod (k v:Nat):encL k (v % 256 ^ k)=encL k v:=by
 have:=encL_val (encL k v) (encL_rng k v)
 rwa [encL_len,val_encL] at this
theorem encL_append (k v:Nat):encL (k+1) v=encL k v++[((v / 256 ^ k % 256:Nat):Int)]:=by
 induction k generalizing v with
 | zero=>simp [encL]
 | succ k ih=>
  rw [encL,ih (v / 256)]
  simp only [encL,List.cons_append]
  rw [Nat.div_div_eq_div_mul,Nat.pow_succ,Nat.mul_comm (256 ^ k) 256]
theorem pow256 (k:Nat):256 ^ k=2 ^ (8*k):=by
 rw [Nat.pow_mul]
theorem enc_bit (n v p:Nat) (hp:p<n):(((enc n v).getD (p / 8) 0).toNat / 2 ^ (p % 8)) % 2=v / 2 ^ p % 2:=by
 rw [enc,encL_get _ _ _ (by omega),Int.toNat_natCast,pow256]
 have h1:v / 2 ^ p=v / 2 ^ (8*(p / 8)) / 2 ^ (p % 8):=by
  rw [Nat.div_div_eq_div_mul,←Nat.pow_add]
  congr 2
  omega
 rw [h1]
 generalize v / 2 ^ (8*(p / 8))=u
 have hq:p % 8<8:=Nat.mod_lt _ (by omega)
 generalize p % 8=q at hq
 have h256:256=2 ^ q*2 ^ (8-q):=by rw [←Nat.pow_add,show q+(8-q)=8 from by omega]
 rw [h256,Nat.mod_mul_right_div_self]
 obtain ⟨r,hr⟩:∃ r,8-q=r+1:=⟨7-q,by omega⟩
 rw [hr,Nat.pow_succ,Nat.mul_comm (2 ^ r) 2,Nat.mod_mul_right_mod]
theorem enc_step (n v s c:Nat) (hv:v<2 ^ n) (hc:c<2 ^ s) (hs:0<s) (h8:n % 8+s≤8) :
  enc (n+s) (v+c*2 ^ n)=(if n % 8=0 then enc n v++[0] else enc n v).set (n / 8) (((v / 256 ^ (n / 8)+c*2 ^ (n % 8):Nat):Int)):=by
 have hk:(n+s+7) / 8=n / 8+1:=by omega
 have hpow:2 ^ n=256 ^ (n / 8)*2 ^ (n % 8):=by
  rw [pow256,←Nat.pow_add,show 8*(n / 8)+n % 8=n from by omega]
 have hlow:encL (n / 8) (v+c*2 ^ n)=encL (n / 8) v:=by
  rw [←encL_mod,hpow,Nat.mul_left_comm,Nat.add_mul_mod_self_left,encL_mod]
 have hdiv:(v+c*2 ^ n) / 256 ^ (n / 8)=v / 256 ^ (n / 8)+c*2 ^ (n % 8):=by
  rw [hpow,Nat.mul_left_comm,Nat.add_mul_div_left _ _ (Nat.pow_pos (by omega))]
 have hvd:v / 256 ^ (n / 8)<2 ^ (n % 8):=by
  rw [Nat.div_lt_iff_lt_mul (Nat.pow_pos (by omega)),Nat.mul_comm,←hpow];exact hv
 have hlt:v / 256 ^ (n / 8)+c*2 ^ (n % 8)<256:=by
  have h1:(c+1)*2 ^ (n % 8)≤2 ^ s*2 ^ (n % 8):=Nat.mul_le_mul_right _ hc
  have h2:2 ^ s*2 ^ (n % 8)≤256:=by
   rw [←Nat.pow_add]
   have h3:2 ^ (s+n % 8)≤2 ^ 8:=Nat.pow_le_pow_right (by omega) (by omega)
   omega
  rw [Nat.add_mul,Nat.one_mul] at h1
  omega
 unfold enc
 rw [hk,encL_append,hlow,hdiv,Nat.mod_eq_of_lt hlt]
 by_cases h0:n % 8=0
 ·rw [if_pos h0,show (n+7) / 8=n / 8 from by omega]
  rw [List.set_append_right _ _ (by rw [encL_len];exact Nat.le_refl _),encL_len]
  simp
 ·rw [if_neg h0,show (n+7) / 8=n / 8+1 from by omega,encL_append]
  rw [List.set_append_right _ _ (by rw [encL_len];exact Nat.le_refl _),encL_len]
  simp
theorem enc_last (n v:Nat) (hv:v<2 ^ n) (h:n % 8≠0):(enc n v).getD (n / 8) 0=((v / 256 ^ (n / 8):Nat):Int):=by
 have hpow:2 ^ n=256 ^ (n / 8)*2 ^ (n % 8):=by
  rw [pow256,←Nat.pow_add,show 8*(n / 8)+n % 8=n from by omega]
 have hvd:v / 256 ^ (n / 8)<2 ^ (n % 8):=by
  rw [Nat.div_lt_iff_lt_mul (Nat.pow_pos (by omega)),Nat.mul_comm,←hpow];exact hv
 have h256:2 ^ (n % 8)≤2 ^ 8:=Nat.pow_le_pow_right (by omega) (by omega)
 rw [enc,encL_get _ _ _ (by omega),Nat.mod_eq_of_lt (by omega)]
theorem enc_top (n v:Nat) (hv:v<2 ^ n):v / 256 ^ (n / 8)<2 ^ (n % 8):=by
 have hpow:2 ^ n=256 ^ (n / 8)*2 ^ (n % 8):=by
  rw [pow256,←Nat.pow_add,show 8*(n / 8)+n % 8=n from by omega]
 rw [Nat.div_lt_iff_lt_mul (Nat.pow_pos (by omega)),Nat.mul_comm,←hpow];exact hv
theorem val_bits (n:Nat) (zs:List Int) (h:∀ z ∈ zs,0≤z∧z≤255) (hl:zs.length=(n+7) / 8) (ht:n % 8=0∨(zs.getD (zs.length-1) 0).toNat<2 ^ (n % 8)) :
  val zs<2 ^ n∧zs=enc n (val zs):=by
 have he:=encL_val zs h
 have hv:=val_lt zs h
 refine ⟨?_,by rw [enc,←hl,he]⟩
 by_cases h0:n % 8=0
 ·rw [hl,pow256,show 8*((n+7) / 8)=n from by omega] at hv
  exact hv
 ·have ht':=ht.resolve_left h0
  have hk:zs.length=n / 8+1:=by omega
  have hlast:zs.getD (zs.length-1) 0=((val zs / 256 ^ (n / 8) % 256:Nat):Int):=by
   have:=encL_get zs.length (val zs) (n / 8) (by omega)
   rw [he] at this
   rw [show zs.length-1=n / 8 from by omega]
   exact this
  rw [hlast,Int.toNat_natCast] at ht'
  have h256:val zs / 256 ^ (n / 8)<256:=by
   rw [Nat.div_lt_iff_lt_mul (Nat.pow_pos (by omega)),←Nat.pow_succ',show (n / 8).succ=zs.length from hk.symm];exact hv
  rw [Nat.mod_eq_of_lt h256,Nat.div_lt_iff_lt_mul (Nat.pow_pos (by omega)),pow256,←Nat.pow_add] at ht'
  rw [show n % 8+8*(n / 8)=n from by omega] at ht'
  exact ht'
theorem put_lt (n v s c:Nat) (hv:v<2 ^ n) (hc:c<2 ^ s):v+c*2 ^ n<2 ^ (n+s):=by
 have h1:(c+1)*2 ^ n≤2 ^ s*2 ^ n:=Nat.mul_le_mul_right _ hc
 rw [Nat.add_mul,Nat.one_mul,←Nat.pow_add,Nat.add_comm s n] at h1
 omega
theorem put_part (n v x i s:Nat):v+(x % 2 ^ i)*2 ^ n+(x / 2 ^ i % 2 ^ s)*2 ^ (n+i)=v+(x % 2 ^ (i+s))*2 ^ n:=by
 have h:x % 2 ^ (i+s)=x % 2 ^ i+2 ^ i*(x / 2 ^ i % 2 ^ s):=by rw [Nat.pow_add,Nat.mod_mul]
 rw [h,Nat.add_mul,Nat.pow_add,Nat.add_assoc]
 congr 2
 rw [Nat.mul_comm (2 ^ i),Nat.mul_assoc,Nat.mul_comm (2 ^ i)]
theorem get_up (v at' i:Nat):v / 2 ^ at' % 2 ^ (i+1)=v / 2 ^ at' % 2 ^ i+(v / 2 ^ (at'+i) % 2)*2 ^ i:=by
 rw [Nat.pow_add 2 i 1,Nat.mod_mul,Nat.pow_one,Nat.div_div_eq_div_mul,←Nat.pow_add,Nat.mul_comm (2 ^ i)]
theorem get_down (v at' i:Nat):v / 2 ^ at' % 2 ^ (i+1)=2*(v / 2 ^ (at'+1) % 2 ^ i)+v / 2 ^ at' % 2:=by
 rw [Nat.pow_succ,Nat.mul_comm (2 ^ i) 2,Nat.mod_mul,Nat.div_div_eq_div_mul,←Nat.pow_succ,Nat.add_comm]
end Go.Proofs.YtaibkchbkedjnaaGreatDoor
namespace Go.Proofs.YtaibkchbkedjnaaGreatDoor
open Go.RowKit
set_option linter.unusedVariables false
theorem okB_enc {N:Int} {zs:List Int} (h:okB N zs=true) (hr:∀ z ∈ zs,0≤z∧z≤255):∃ n:Nat,N=n∧n≤4096∧zs=enc n (val zs)∧val zs<2 ^ n:=by
 simp only [okB,Bool.and_eq_true,decide_eq_true_eq,Bool.or_eq_true,beq_iff_eq] at h
 obtain ⟨⟨h0,h1,h2⟩,h3⟩:=h
 obtain ⟨n,rfl⟩:=Int.eq_ofNat_of_zero_le h0
 have:=val_bits n zs hr (by omega) (by
  rcases h3 with h3 | h3
  ·exact .inl (by omega)
  ·refine .inr ?_
   have hz:=getD_rng hr (zs.length-1)
   obtain ⟨z,hz'⟩:=Int.eq_ofNat_of_zero_le hz.1
   rw [hz'] at h3 ⊢
   rw [show ((n:Int) % 8).toNat=n % 8 from by omega] at h3
   have h4:((z / 2 ^ (n % 8):Nat):Int)=0:=by simpa using h3
   rw [Int.toNat_natCast]
   have h5:z / 2 ^ (n % 8)=0:=by omega
   exact (Nat.div_eq_zero_iff_lt (Nat.pow_pos (by omega))).1 h5)
 exact ⟨n,rfl,by omega,this.2,this.1⟩
theorem ofInt_i64 (a:Nat) (ha:a<9223372036854775808):(BitVec.ofInt 64 (a:Int)).toNat=a:=by
 rw [BitVec.ofInt_natCast,BitVec.toNat_ofNat];exact Nat.mod_eq_of_lt (by omega)
theorem i64_and_nat (a b:Nat) (ha:a<9223372036854775808) (hb:b<9223372036854775808):bits .and .i64 (a:Int) (b:Int)=((a &&& b:Nat):Int):=by
 have hx:a &&& b<2 ^ 63:=Nat.and_lt_two_pow _ (by omega)
 show IntKind.i64.wrap ((BitVec.ofInt 64 (a:Int) &&& BitVec.ofInt 64 (b:Int)).toNat:Int)=_
 rw [BitVec.toNat_and,ofInt_i64 a ha,ofInt_i64 b hb,IntKind.wrap_i64]
 omega
theorem i64_or_nat (a b:Nat) (ha:a<9223372036854775808) (hb:b<9223372036854775808):bits .or .i64 (a:Int) (b:Int)=((a ||| b:Nat):Int):=by
 have hx:a ||| b<2 ^ 63:=Nat.or_lt_two_pow (by omega) (by omega)
 show IntKind.i64.wrap ((BitVec.ofInt 64 (a:Int) ||| BitVec.ofInt 64 (b:Int)).toNat:Int)=_
 rw [BitVec.toNat_or,ofInt_i64 a ha,ofInt_i64 b hb,IntKind.wrap_i64]
 omega
theorem bit64 (z:Int) (k:Nat) (h:0≤z∧z≤255):bits .and .i64 (wrap64 (z / 2 ^ k)) 1=((z.toNat / 2 ^ k % 2:Nat):Int):=by
 obtain ⟨n,rfl⟩:=Int.eq_ofNat_of_zero_le h.1
 have e:((n:Int) / 2 ^ k)=((n / 2 ^ k:Nat):Int):=by simp
 have hle:n / 2 ^ k≤n:=Nat.div_le_self _ _
 rw [e,Int.toNat_natCast]
 generalize n / 2 ^ k=m at *
 rw [IntWalk.wrap64_in _ (by omega)]
 have:=i64_and_nat m 1 (by omega) (by omega)
 rw [show ((1:Nat):Int)=1 from rfl] at this
 rw [this,nat_mask1]
theorem or_bit64 (n b i:Nat) (hn:n<2 ^ i) (hb:b≤1) (hi:i≤31):bits .or .i64 (n:Int) ((b*2 ^ i:Nat):Int)=((n+b*2 ^ i:Nat):Int):=by
 have h1:2 ^ i≤2 ^ 31:=Nat.pow_le_pow_right (by omega) hi
 have h2:b*2 ^ i≤1*2 ^ i:=Nat.mul_le_mul_right _ hb
 rw [i64_or_nat n (b*2 ^ i) (by omega) (by omega)]
 congr 1
 rw [Nat.or_comm,nat_join i _ _ (by simp) hn,Nat.add_comm]
theorem or_step64 (X j k:Nat) (z:Int) (hz:0≤z∧z≤255) (hx:X<2 ^ j) (hj:j≤31) :
  bits .or .i64 (X:Int) (wrap64 (bits .and .i64 (wrap64 (z / 2 ^ k)) 1*2 ^ j))=((X+z.toNat / 2 ^ k % 2*2 ^ j:Nat):Int):=by
 rw [bit64 z k hz]
 have hb:z.toNat / 2 ^ k % 2≤1:=by omega
 generalize z.toNat / 2 ^ k % 2=bt at *
 have e:((bt:Nat):Int)*2 ^ j=((bt*2 ^ j:Nat):Int):=by simp
 have h1:2 ^ j≤2 ^ 31:=Nat.pow_le_pow_right (by omega) hj
 have h2:bt*2 ^ j≤1*2 ^ j:=Nat.mul_le_mul_right _ hb
 have h3:=or_bit64 X bt j hx hb hj
 rw [e]
 generalize bt*2 ^ j=y at *
 rw [IntWalk.wrap64_in _ (by omega)]
 exact h3
theorem or_u8 (old x u:Nat) (ho:old<2 ^ u) (hx:x % 2 ^ u=0) (h8:x<256) (h9:old<256):bits .or .u8 (old:Int) (x:Int)=((old+x:Nat):Int):=by
 rw [u8_or_nat old x h9 h8]
 congr 1
 rw [Nat.or_comm,nat_join u _ _ hx ho,Nat.add_comm]
end Go.Proofs.YtaibkchbkedjnaaGreatDoor
