/- Lemmas on the way. -/
import Derived.Test.YtaibkchbkedjnaaGreatDoorBit1
import Derived.Test.YtaibkchbkedjnaaGreatDoorUs2
import Derived.Test.YtaibkchbkedjnaaGreatDoorUs3
import Derived.Test.YtaibkchbkedjnaaGreatDoorPlP
import Derived.Test.YtaibkchbkedjnaaGreatDoorPut1
set_option maxRecDepth 20000
set_option maxHeartbeats 16000000
namespace Go.Proofs.YtaibkchbkedjnaaGreatDoor
open Go.RowKit
set_option linter.unusedVariables false
theorem l1get_any (a:Option Addr) (cap:Nat) (zs:List Int) (N p width:Int) (n v:Nat) (w:World) (hb:Byt w a zs) (hz:zs=enc n v) (hn:n≤4104) (h0:0≤p) (h1:0≤width) (h2:width≤30) (h3:p+width≤n) :
  Calls Tryz.prog 156 #[.agg #[.slice a zs.length cap,.int .i64 N],.int .i64 p,.int .i64 width] w fun e w'=>e=.returned (.int .i64 (v / 2 ^ p.toNat % 2 ^ width.toNat:Nat))∧Below w.heap.size w w':=by
 have hw:Below w.heap.size w (w.alloc (Obj.cells #[.slice a zs.length cap,.int .i64 N] 155)):=bAw
 obtain ⟨q,rfl⟩:=Int.eq_ofNat_of_zero_le h0
 obtain ⟨m,rfl⟩:=Int.eq_ofNat_of_zero_le h1
 simp only [Int.toNat_natCast] at *
 have HZ:Hid (zs=enc n v):=hz
 have hlen:zs.length=(n+7) / 8:=by rw [hz,enc_len]
 have HL:Hid (zs.length=(n+7) / 8):=hlen
 clear hz hlen
 go_enter Tryz.func156,Tryz.ntmps156
 go_wp2
 go_loopw [7,8] (fun x i wr=>∃ j:Nat,j≤m∧i=.int .i64 ((j:Int)-1)∧x=.int .i64 (v / 2 ^ (q+j) % 2 ^ (m-j):Nat)∧Below w.heap.size w wr∧w.heap.size<wr.heap.size ∧
   wr.cell? ⟨w.heap.size,0,none⟩=some (.slice a zs.length cap)∧wr.cell? ⟨w.heap.size,1,none⟩=some (.int .i64 N)) (fun _ i _=>(intOf i+1).toNat)
 case atStart=>exact ⟨m,Nat.le_refl _,rfl,by simp [Nat.mod_one],hw,by simp,by simp,by simp⟩
 case round=>
  obtain ⟨j,hj,rfl,rfl,hbel,hsz,p0,p1⟩:=hrel
  by_cases hlt:0<j
  ·obtain ⟨j',rfl⟩:∃ j',j=j'+1:=⟨j-1,by omega⟩
   have hx:v / 2 ^ (q+(j'+1)) % 2 ^ (m-(j'+1))<2 ^ 30:=Nat.lt_of_lt_of_le (Nat.mod_lt _ (Nat.pow_pos (by omega))) (Nat.pow_le_pow_right (by omega) (by omega))
   have hge:(0:Int)≤((j'+1:Nat):Int)-1:=by omega
   have HX:Hid (v / 2 ^ (q+j') % 2 ^ (m-j')=2*(v / 2 ^ (q+(j'+1)) % 2 ^ (m-(j'+1)))+v / 2 ^ (q+j') % 2):=by
    have:=get_down v (q+j') (m-(j'+1))
    rw [show m-(j'+1)+1=m-j' from by omega] at this
    rw [Nat.add_assoc] at this
    exact this
   generalize v / 2 ^ (q+(j'+1)) % 2 ^ (m-(j'+1))=X at *
   have HB:Hid (bitAt zs ((q:Int)+(j':Int)).toNat=v / 2 ^ (q+j') % 2):=by
    have:=enc_bit n v (q+j') (by omega)
    rw [←HZ.out] at this
    rw [show ((q:Int)+(j':Int)).toNat=q+j' from by omega]
    exact this
   have hbit:v / 2 ^ (q+j') % 2<2:=Nat.mod_lt _ (by omega)
   generalize v / 2 ^ (q+j') % 2=bt at *
   go_wp2_with fail
   refine (l1bit_any a cap zs N _ _ (hb.below hbel nl) (by omega) (by have:=HL.out;omega) (by omega)).mono ?_
   rintro e w1 ⟨rfl,hb1⟩
   rw [HB.out]
   have z1:=hb1.size
   have q0:=keep hb1 hsz p0
   have q1:=keep hb1 hsz p1
   have hbel1:=hbel.trans (hb1.mono (Nat.le_of_lt hsz))
   clear p0 p1 hb1 hbel hw
   go_wp2
   go_roundw
   case rel=>exact ⟨j',by omega,by go_num,by rw [HX.out];go_num,hbel1,by omega,q0,q1⟩
   case measure=>simp [intOf]
  ·have hj0:j=0:=by omega
   subst hj0
   go_wp2
   go_ret
   exact ⟨ret_int (by simp),hbel⟩
set_option linter.unusedSimpArgs false
theorem wpowG (k:Nat) (h:k≤12):wrap64 (2 ^ k)=((2 ^ k:Nat):Int):=by
 have h2:2 ^ k≤2 ^ 12:=Nat.pow_le_pow_right (by omega) h
 have e:((2:Int) ^ k)=((2 ^ k:Nat):Int):=by simp
 rw [e]
 generalize 2 ^ k=P at *
 exact IntWalk.wrap64_in _ (by omega)
def Sml (ss:List Sq):Prop:=∀ s ∈ ss,0≤s.n∧s.n≤10000∧0≤s.d∧s.d≤10000∧s.ls.length≤300
theorem Sml.nil :Sml []:=by intro s hs;cases hs
theorem Sml.snoc {ss:List Sq} {s:Sq} (h:Sml ss) (hs:0≤s.n∧s.n≤10000∧0≤s.d∧s.d≤10000∧s.ls.length≤300):Sml (ss++[s]):=by
 intro x hx
 rcases List.mem_append.1 hx with hx | hx
 ·exact h x hx
 ·obtain rfl:x=s:=by simpa using hx
  exact hs
theorem Sml.rng {ss:List Sq} (h:Sml ss):∀ s ∈ ss,rI s.n∧rI s.d∧s.ls.length≤maxLen:=fun s hs=>by
 obtain ⟨h1,h2,h3,h4,h5⟩:=h s hs
 refine ⟨⟨by omega,by omega⟩,⟨by omega,by omega⟩,by unfold maxLen;omega⟩
def Aprt (ss:List Sq) (v:Value):Prop:=∀ s ∈ ss,∀ k,rowOf s.a k→v.ownBlock≠some k
theorem Aprt.none (ss:List Sq):Aprt ss (.slice none 0 0):=by intro s hs k hk;simp [Value.ownBlock]
theorem Aprt.app {w:World} {B:Nat} {ss:List Sq} {v v':Value} {H:Nat} (h:Aprt ss v) (hd:DeepQ w B ss) (hv:v'.ownBlock=v.ownBlock∨v'.ownBlock=some H) (hH:w.heap.size≤H):Aprt ss v':=by
 intro s hs k hk
 rcases hv with hv | hv
 ·rw [hv];exact h s hs k hk
 ·rw [hv]
  have:=((hd.mine s hs).rowB hk).2
  simp only [ne_eq,Option.some.injEq]
  omega
theorem DeepQ.grownB {w w':World} {B:Nat} {ss:List Sq} {v:Value} (hd:DeepQ w B ss) (h:Aprt ss v) (hg:w.grownBy w' v.ownBlock):DeepQ w' B ss:=
 hd.stay (Only.ofGrownQ hg) (fun s hs k hk e=>h s hs k hk e)
theorem OVq.grownB {w w':World} {B B':Nat} {v lv:Value} {ss:List Sq} {ls:List Int} (h:OVq w B v ss) (hb:OVB w B' lv ls) (hg:w.grownBy w' lv.ownBlock):OVq w' B v ss:=by
 refine h.stay (Only.ofGrownQ hg) (fun k hk e=>?_)
 rcases h.own.2 with ⟨rfl,h0⟩ | ⟨g,cap,cur,rfl,hg,hh,_⟩
 ·simp [Value.ownBlock] at hk
 ·obtain rfl:g=k:=by simpa [Value.ownBlock] using hk
  exact hb.blk_ne hh (by decide) e.symm
theorem DeepQ.weak {w:World} {B B':Nat} {ss:List Sq} (h:DeepQ w B ss) (hB:B'≤B):DeepQ w B' ss:=⟨fun s hs=>(h.mine s hs).mono hB nl,h.apart⟩
theorem OVB.mineAt {w:World} {B:Nat} {v:Value} {zs:List Int} (h:OVB w B v zs):∃ (a:Option Addr) (cp:Nat),v=.slice a zs.length cp∧Mine w B w.heap.size a cp zs∧∀ k,rowOf a k→v.ownBlock=some k:=by
 obtain ⟨a,cp,e,hm⟩:=h.mine
 refine ⟨a,cp,e,hm,fun k hk=>?_⟩
 obtain ⟨x,rfl,rfl⟩:=hk
 rw [e]
 rfl
def usR (w w':World) (N V:Nat) (ts:List Int) (e:Ending):Prop:=Below w.heap.size w w' ∧
 (∀ cs,uqF N V ts=some cs→∃ v ss,e=.returned (.tuple #[v,.bool true])∧ss.map Sq.ct=cs∧OVq w' w.heap.size v ss∧DeepQ w' w.heap.size ss∧Sml ss∧ss.length≤301) ∧
 (uqF N V ts=none→∃ v,e=.returned (.tuple #[v,.bool false]))
theorem usR.no {w w':World} {N V:Nat} {ts:List Int} {v:Value} (hb:Below w.heap.size w w') (h:uqF N V ts=none):usR w w' N V ts (.returned (.tuple #[v,.bool false])):=
 And.intro hb (And.intro (fun cs hc=>by rw [h] at hc;cases hc) (fun _=>⟨_,rfl⟩))
theorem l5unsymbols_any (a:Option Addr) (cap:Nat) (ts:List Int) (x:Option Addr) (cx:Nat) (zs:List Int) (N V:Nat) (w:World) (ha:Ins w a ts) (hx:Byt w x zs) (hz:zs=enc N V) (hN:N≤4096) (ht:∀ s ∈ ts,0≤s∧s<40) (hl:ts.length≤300) :
  Calls Tryz.prog 119 #[.slice a ts.length cap,.agg #[.slice x zs.length cx,.int .i64 N]] w fun e w'=>usR w w' N V ts e:=by
 have HZ:Hid (zs=enc N V):=hz
 have HT:Hid (∀ k,k<ts.length→0≤ts.getD k 0∧ts.getD k 0<40):=fun k hk=>ht _ (getD_mem hk)
 have HIN:Hid (Ins w a ts∧Byt w x zs):=⟨ha,hx⟩
 have HBW:Hid (Below w.heap.size w (w.alloc (Obj.cells #[.slice x zs.length cx,.int .i64 N] 155))):=bAw
 have q0:(w.alloc (Obj.cells #[.slice x zs.length cx,.int .i64 N] 155)).cell? ⟨w.heap.size,0,none⟩=some (.slice x zs.length cx):=by simp
 have q1:(w.alloc (Obj.cells #[.slice x zs.length cx,.int .i64 N] 155)).cell? ⟨w.heap.size,1,none⟩=some (.int .i64 N):=by simp
 have Q:Hid _:=(⟨q0,q1⟩:_∧_)
 have HSZ:Hid (w.heap.size+1≤(w.alloc (Obj.cells #[.slice x zs.length cx,.int .i64 N] 155)).heap.size):=by simp [Hid]
 have HDC:Hid _:=drop_cons ts
 clear hz q0 q1 ht ha hx
 generalize hlen:ts.length=n at *
 have HL:Hid (ts.length=n):=hlen
 clear hlen
 go_enter Tryz.func119,Tryz.ntmps119
 go_wp2
 generalize w.alloc (Obj.cells #[.slice x zs.length cx,.int .i64 N] 155)=W0 at *
 go_loopw [6,7,8,9,10] (fun ov lv pv Lv iv wr=>∃ (i p L:Nat) (ls:List Int) (ss:List Sq),iv=.int .i64 i∧pv=.int .i64 p∧Lv=.int .i64 L∧(i≤n∧p≤N∧L≤5000∧ls.length≤i∧ss.length≤i)∧uq N V (ts.drop i) p ls L (ss.map Sq.ct)=uq N V ts 0 [] 0 []∧Sml ss∧OVB wr (w.heap.size+1) lv ls∧OVq wr (w.heap.size+1) ov ss∧DeepQ wr (w.heap.size+1) ss∧Aprt ss lv∧Below (w.heap.size+1) W0 wr) (fun _ _ _ _ iv _=>n-(intOf iv).toNat)
 case atStart=>exact ⟨0,0,0,[],[],rfl,rfl,rfl,⟨by omega,by omega,by omega,by simp,by simp⟩,rfl,Sml.nil,OVB.nil _ _,OVq.nil _ _,DeepQ.nil _ _,Aprt.none _,Below.refl _ _⟩
 case round=>
  obtain ⟨i,p,L,ls,ss,rfl,rfl,rfl,⟨hi,hp,hL,hll,hsl⟩,hu,hsm,hob,hoq,hdq,hap,hbel⟩:=hrel
  obtain ⟨la,lc,rfl⟩:=hob.form
  obtain ⟨oa,oc,rfl⟩:=hoq.form
  have HF:Hid (uq N V (ts.drop i) p ls L (ss.map Sq.ct)=uq N V ts 0 [] 0 []∧Sml ss):=⟨hu,hsm⟩
  have HO:Hid (OVB wr (w.heap.size+1) (.slice la ls.length lc) ls∧OVq wr (w.heap.size+1) (.slice oa ss.length oc) ss∧DeepQ wr (w.heap.size+1) ss∧Aprt ss (.slice la ls.length lc)):=⟨hob,hoq,hdq,hap⟩
  have HB:Hid (Below (w.heap.size+1) W0 wr∧Below w.heap.size w wr):=⟨hbel,HBW.out.trans (hbel.mono (by omega))⟩
  have hsz:w.heap.size+1≤wr.heap.size:=Nat.le_trans HSZ.out hbel.size
  have b0:=keep hbel (by omega) Q.out.1
  have b1:=keep hbel (by omega) Q.out.2
  clear hu hsm hob hoq hdq hap hbel
  by_cases hlt:i<n
  ·have hia:=HIN.out.1.below HB.out.2 nl
   obtain ⟨ab,ao,rfl,hab,hac⟩:=hia.len_pos i (by rw [HL.out];exact hlt)
   have hs1:=hac i (by rw [HL.out];exact hlt)
   have hsr:=HT.out i hlt
   have HUC:=HDC.out i hlt
   have HU2:Hid (uq N V (ts.getD i 0 :: ts.drop (i+1)) p ls L (ss.map Sq.ct)=uq N V ts 0 [] 0 []):=by rw [←HUC];exact HF.out.1
   have hwd:=wid_le hsr.2
   have hpw:=pow_wid hsr.2
   have hbt:=bt_lt V p (wid (ts.getD i 0))
   clear HUC hac hia
   generalize ts.getD i 0=s at *
   by_cases hs28:28≤s
   ·by_cases hL0:L=0
    ·subst hL0
     have HN:Hid (uqF N V ts=none):=by
      unfold Hid uqF
      rw [←HU2.out,uq_bad (Or.inr (by omega))]
      rfl
     clear HO HF HU2
     go_wp2
     all_goals exact bodyPost_ret (v:=.tuple #[.slice none 0 0,.bool false]) (by simp [results,Tryz.results119,go_sem]) rfl (usR.no HB.out.2 HN.out)
    ·have hL1:0<L:=by omega
     by_cases hpn:p+wid s≤N
     ·skip
      have HU3:Hid (uq N V (ts.drop (i+1)) (p+wid s) [] 0 (ss.map Sq.ct++[(ls,(L:Int),((2 ^ wid s+bt V p (wid s):Nat):Int))])=uq N V ts 0 [] 0 []):=by rw [←HU2.out];exact (uq_dst hpn (by omega) hs28).symm
      have hwe:wid s=(s-28).toNat:=by unfold wid;rw [if_pos hs28]
      rw [hwe] at hbt hwd hpw
      have hpn2:(p:Int)+(s-28)≤N:=by omega
      have hpn3:¬((N:Int)-(s-28)<(p:Int)):=by omega
      rw [hwe] at HU3
      clear hwe hpn
      have HPW:Hid (wrap64 (2 ^ (s-28).toNat)=((2 ^ (s-28).toNat:Nat):Int)∧True):=⟨wpowG _ (by omega),trivial⟩
      go_wp2_with fail
      refine (l1get_any x cx zs N p (s-28) N V _ (HIN.out.2.below HB.out.2 nl) HZ.out (by omega) (by omega) (by omega) (by omega) (by omega)).mono ?_
      rintro e w2 ⟨rfl,hb2⟩
      have hxe:V / 2 ^ ((p:Nat):Int).toNat % 2 ^ ((s-28):Int).toNat=bt V p (s-28).toNat:=by unfold bt;simp
      rw [hxe]
      have HB2:Hid (Below (w.heap.size+1) W0 w2∧Below w.heap.size w w2):=⟨HB.out.1.trans (hb2.mono (by omega)),HB.out.2.trans (hb2.mono (by omega))⟩
      have HO2:Hid (OVB w2 (w.heap.size+1) (.slice la ls.length lc) ls∧OVq w2 (w.heap.size+1) (.slice oa ss.length oc) ss∧DeepQ w2 (w.heap.size+1) ss∧Aprt ss (.slice la ls.length lc)):=⟨HO.out.1.below hb2,HO.out.2.1.below hb2,HO.out.2.2.1.below hb2,HO.out.2.2.2⟩
      have hz2:w.heap.size+1≤w2.heap.size:=Nat.le_trans hsz hb2.size
      clear hxe hb2 HO b0 b1 hs1
      generalize bt V p (s-28).toNat=y at *
      have HDV:Hid (wrap64 (wrap64 (2 ^ (s-28).toNat)+(y:Nat))=((2 ^ (s-28).toNat+y:Nat):Int)∧2 ^ (s-28).toNat+y≤4096):=by
       rw [HPW.out.1]
       generalize 2 ^ (s-28).toNat=P at *
       refine ⟨?_,by omega⟩
       rw [IntWalk.wrap64_in ((P:Int)+(y:Nat)) (by omega)]
       omega
      have hss3:ss.length≤300:=by omega
      go_wp2_with (at_builtin;(refine wpList_append_sq rfl (.tmp 52) (.tmp 60) rfl (w.heap.size+1) (.slice oa ss.length oc) ss rfl (HO2.out.2.1.below ((Below.refl _ _).alloc nl _)) w2.heap.size 1 ⟨la,lc,ls,(L:Int),wrap64 (wrap64 (2 ^ (s-28).toNat)+(y:Nat))⟩ rfl (newsQ w2 la ls.length lc _ _ _ _ rfl rfl rfl rfl rfl) (by omega) (by simp;omega) ?_);intro v4 w4 hown hgrow)
      have HO4:Hid (OVq w4 (w.heap.size+1) v4 (ss++[⟨la,lc,ls,(L:Int),wrap64 (wrap64 (2 ^ (s-28).toNat)+(y:Nat))⟩])∧DeepQ w4 (w.heap.size+1) (ss++[⟨la,lc,ls,(L:Int),wrap64 (wrap64 (2 ^ (s-28).toNat)+(y:Nat))⟩])):=by
       refine ⟨hown,?_⟩
       obtain ⟨a5,c5,e5,hm5,hr5⟩:=HO2.out.1.mineAt
       obtain ⟨rfl,rfl⟩:la=a5∧lc=c5:=by simpa using e5
       have hd5:DeepQ w2 (w.heap.size+1) (ss++[⟨la,lc,ls,(L:Int),wrap64 (wrap64 (2 ^ (s-28).toNat)+(y:Nat))⟩]):=HO2.out.2.2.1.snoc hm5 (fun z hz k hk hk2=>HO2.out.2.2.2 z hz k hk (hr5 k hk2))
       exact (hd5.below ((Below.refl _ _).alloc nl _)).grown (HO2.out.2.1.below ((Below.refl _ _).alloc nl _)) hgrow
      have HB4:Hid (Below (w.heap.size+1) W0 w4):=(HB2.out.1.alloc hz2 _).grown hgrow (by simp;omega) (fun k hk=>(HO2.out.2.1.blk hk).1)
      have HCT:Hid ((ss++[(⟨la,lc,ls,(L:Int),wrap64 (wrap64 (2 ^ (s-28).toNat)+(y:Nat))⟩:Sq)]).map Sq.ct=ss.map Sq.ct++[(ls,(L:Int),((2 ^ (s-28).toNat+y:Nat):Int))]∧True):=⟨by rw [List.map_append,HDV.out.1];rfl,trivial⟩
      have HSM:Hid (Sml (ss++[⟨la,lc,ls,(L:Int),wrap64 (wrap64 (2 ^ (s-28).toNat)+(y:Nat))⟩])):=HF.out.2.snoc ⟨by simp only;omega,by simp only;omega,by simp only [HDV.out.1];omega,by simp only [HDV.out.1];have:=HDV.out.2;omega,by simp only;omega⟩
      clear hown hgrow HO2 HB2
      go_roundw
      case rel=>exact ⟨i+1,p+(s-28).toNat,0,[],_,by go_num,by congr 1;omega,rfl,⟨by omega,by omega,by omega,by simp,by rw [List.length_append];simp;omega⟩,by rw [HCT.out.1];exact HU3.out,HSM.out,OVB.nil _ _,HO4.out.1,HO4.out.2,Aprt.none _,HB4.out⟩
      case measure=>simp [intOf];omega
     ·have hpn2:(N:Int)-(s-28)<(p:Int):=by
       have:wid s=(s-28).toNat:=by unfold wid;rw [if_pos hs28]
       omega
      have HN:Hid (uqF N V ts=none):=by
       unfold Hid uqF
       rw [←HU2.out,uq_bad (Or.inl (by omega))]
       rfl
      clear HO HF HU2
      go_wp2
      all_goals exact bodyPost_ret (v:=.tuple #[.slice none 0 0,.bool false]) (by simp [results,Tryz.results119,go_sem]) rfl (usR.no HB.out.2 HN.out)
   ·by_cases hL0:L=0
    ·subst hL0
     by_cases hs16:16≤s
     ·by_cases hpn:p+wid s≤N
      ·skip
       have HU3:Hid (uq N V (ts.drop (i+1)) (p+wid s) ls (2 ^ wid s+bt V p (wid s)+2) (ss.map Sq.ct)=uq N V ts 0 [] 0 []):=by rw [←HU2.out];exact (uq_len hpn rfl hs16 (by omega)).symm
       have hwe:wid s=(s-16).toNat:=by unfold wid;rw [if_neg (by omega),if_pos hs16]
       rw [hwe] at hbt hwd hpw
       have HWE:Hid (wid s=(s-16).toNat∧True):=⟨hwe,trivial⟩
       have hpn2:(p:Int)+(s-16)≤N:=by omega
       have hpn3:¬((N:Int)-(s-16)<(p:Int)):=by omega
       rw [hwe] at HU3
       clear hwe hpn
       have HPW:Hid (wrap64 (2 ^ (s-16).toNat)=((2 ^ (s-16).toNat:Nat):Int)∧True):=⟨wpowG _ (by omega),trivial⟩
       go_wp2_with fail
       refine (l1get_any x cx zs N p (s-16) N V _ (HIN.out.2.below HB.out.2 nl) HZ.out (by omega) (by omega) (by omega) (by omega) (by omega)).mono ?_
       rintro e w2 ⟨rfl,hb2⟩
       have hxe:V / 2 ^ ((p:Nat):Int).toNat % 2 ^ ((s-16):Int).toNat=bt V p (s-16).toNat:=by unfold bt;simp
       rw [hxe]
       have HB2:Hid (Below (w.heap.size+1) W0 w2∧Below w.heap.size w w2):=⟨HB.out.1.trans (hb2.mono (by omega)),HB.out.2.trans (hb2.mono (by omega))⟩
       have HO2:Hid (OVB w2 (w.heap.size+1) (.slice la ls.length lc) ls∧OVq w2 (w.heap.size+1) (.slice oa ss.length oc) ss∧DeepQ w2 (w.heap.size+1) ss∧Aprt ss (.slice la ls.length lc)):=⟨HO.out.1.below hb2,HO.out.2.1.below hb2,HO.out.2.2.1.below hb2,HO.out.2.2.2⟩
       have hz2:w.heap.size+1≤w2.heap.size:=Nat.le_trans hsz hb2.size
       clear hxe hb2 HO b0 b1 hs1
       generalize bt V p (s-16).toNat=y at *
       have HPB:Hid (2 ^ (s-16).toNat≤2048∧y<2 ^ (s-16).toNat):=⟨hpw,hbt⟩
       have HLV:Hid (wrap64 (wrap64 (wrap64 (wrap64 (2 ^ (s-16).toNat)+(y:Nat))+3)-1)=((2 ^ (s-16).toNat+y+2:Nat):Int)∧True):=by
        refine ⟨?_,trivial⟩
        rw [HPW.out.1]
        have h1:=HPB.out.1
        have h2:=HPB.out.2
        generalize 2 ^ (s-16).toNat=P at *
        rw [IntWalk.wrap64_in ((P:Int)+(y:Nat)) (by omega),IntWalk.wrap64_in ((P:Int)+(y:Nat)+3) (by omega),IntWalk.wrap64_in ((P:Int)+(y:Nat)+3-1) (by omega)]
        omega
       go_wp2
       go_roundw
       case rel=>exact ⟨i+1,p+(s-16).toNat,2 ^ (s-16).toNat+y+2,ls,ss,by go_num,by congr 1;omega,by rw [HLV.out.1],⟨by omega,by omega,by have:=HPB.out;omega,by omega,by omega⟩,HU3.out,HF.out.2,HO2.out.1,HO2.out.2.1,HO2.out.2.2.1,HO2.out.2.2.2,HB2.out.1⟩
       case measure=>simp [intOf];omega
      ·have hpn2:(N:Int)-(s-16)<(p:Int):=by
        have:wid s=(s-16).toNat:=by unfold wid;rw [if_neg hs28,if_pos hs16]
        omega
       have HN:Hid (uqF N V ts=none):=by
        unfold Hid uqF
        rw [←HU2.out,uq_bad (Or.inl (by omega))]
        rfl
       clear HO HF HU2
       go_wp2
       all_goals exact bodyPost_ret (v:=.tuple #[.slice none 0 0,.bool false]) (by simp [results,Tryz.results119,go_sem]) rfl (usR.no HB.out.2 HN.out)
     ·have hwe:wid s=4:=by unfold wid;rw [if_neg (by omega),if_neg (by omega)]
      by_cases hpn:p+4≤N
      ·skip
       have HU3:Hid (uq N V (ts.drop (i+1)) (p+4) (ls++[16*s+(bt V p 4:Nat)]) 0 (ss.map Sq.ct)=uq N V ts 0 [] 0 []):=by rw [←HU2.out];exact (uq_let hpn rfl (by omega)).symm
       rw [hwe] at hbt
       clear hwe hwd hpw
       go_wp2_with fail
       refine (l1get_any x cx zs N p 4 N V _ (HIN.out.2.below HB.out.2 nl) HZ.out (by omega) (by omega) (by omega) (by omega) (by omega)).mono ?_
       rintro e w2 ⟨rfl,hb2⟩
       have hxe:V / 2 ^ ((p:Nat):Int).toNat % 2 ^ (4:Int).toNat=bt V p 4:=by unfold bt;simp
       rw [hxe]
       have HB2:Hid (Below (w.heap.size+1) W0 w2∧Below w.heap.size w w2):=⟨HB.out.1.trans (hb2.mono (by omega)),HB.out.2.trans (hb2.mono (by omega))⟩
       have HO2:Hid (OVB w2 (w.heap.size+1) (.slice la ls.length lc) ls∧OVq w2 (w.heap.size+1) (.slice oa ss.length oc) ss∧DeepQ w2 (w.heap.size+1) ss∧Aprt ss (.slice la ls.length lc)):=⟨HO.out.1.below hb2,HO.out.2.1.below hb2,HO.out.2.2.1.below hb2,HO.out.2.2.2⟩
       have hz2:w.heap.size+1≤w2.heap.size:=Nat.le_trans hsz hb2.size
       clear hxe hb2 HO b0 b1 hs1
       generalize bt V p 4=y at *
       have hll3:ls.length≤300:=by omega
       go_wp2_with (at_builtin;(refine wpList_append_b1 rfl (.tmp 65) (.tmp 71) rfl (w.heap.size+1) (.slice la ls.length lc) ls rfl (HO2.out.1.alloc _) w2.heap.size 1 (16*s+(y:Nat)) rfl (by simp) (by omega) (by omega) (by simp;omega) ?_);intro v4 w4 hown hgrow hat)
       have HO4:Hid (OVB w4 (w.heap.size+1) v4 (ls++[16*s+(y:Nat)])∧OVq w4 (w.heap.size+1) (.slice oa ss.length oc) ss∧DeepQ w4 (w.heap.size+1) ss∧Aprt ss v4):=by
        have hbA:Below w2.heap.size w2 (w2.alloc (Obj.cells #[.int .u8 (16*s+(y:Nat))] 5)):=bAw
        exact ⟨hown,(HO2.out.2.1.below hbA).grownB (HO2.out.1.alloc _) hgrow,(HO2.out.2.2.1.below hbA).grownB HO2.out.2.2.2 hgrow,HO2.out.2.2.2.app HO2.out.2.2.1 hat (by simp)⟩
       have HB4:Hid (Below (w.heap.size+1) W0 w4):=(HB2.out.1.alloc hz2 _).grown hgrow (by simp;omega) (fun k hk=>(HO2.out.1.blk hk))
       clear hown hgrow hat HO2 HB2
       go_roundw
       case rel=>exact ⟨i+1,p+4,0,ls++[16*s+(y:Nat)],ss,by go_num,by go_num,rfl,⟨by omega,by omega,by omega,by rw [List.length_append];simp;omega,by omega⟩,HU3.out,HF.out.2,HO4.out.1,HO4.out.2.1,HO4.out.2.2.1,HO4.out.2.2.2,HB4.out⟩
       case measure=>simp [intOf];omega
      ·have hpn2:(N:Int)-4<(p:Int):=by omega
       have HN:Hid (uqF N V ts=none):=by
        unfold Hid uqF
        rw [←HU2.out,uq_bad (Or.inl (by rw [hwe];omega))]
        rfl
       clear HO HF HU2
       go_wp2
       all_goals exact bodyPost_ret (v:=.tuple #[.slice none 0 0,.bool false]) (by simp [results,Tryz.results119,go_sem]) rfl (usR.no HB.out.2 HN.out)
    ·have hL1:0<L:=by omega
     have HN:Hid (uqF N V ts=none):=by
      unfold Hid uqF
      rw [←HU2.out,uq_bad (Or.inr (by omega))]
      rfl
     clear HO HF HU2
     by_cases hs16:16≤s
     ·go_wp2
      all_goals exact bodyPost_ret (v:=.tuple #[.slice none 0 0,.bool false]) (by simp [results,Tryz.results119,go_sem]) rfl (usR.no HB.out.2 HN.out)
     ·go_wp2
      all_goals exact bodyPost_ret (v:=.tuple #[.slice none 0 0,.bool false]) (by simp [results,Tryz.results119,go_sem]) rfl (usR.no HB.out.2 HN.out)
  ·skip
   have hin:i=n:=by omega
   subst hin
   have HUE:Hid (uq N V ts 0 [] 0 []=some (ss.map Sq.ct,p,ls,L)):=by
    rw [←HF.out.1,List.drop_eq_nil_of_le (by rw [HL.out];exact Nat.le_refl _)]
    rfl
   have hss3:ss.length≤300:=by omega
   by_cases hls:ls=[]
   ·subst hls
    have HUF:Hid (uqF N V ts=if p=N∧L=0 then some (ss.map Sq.ct) else none):=by
     unfold Hid uqF
     rw [HUE.out]
     simp [uqE]
    by_cases hok:p=N∧L=0
    ·have HY:Hid (usR w wr N V ts (.returned (.tuple #[.slice oa ss.length oc,.bool true]))):=by
      refine And.intro HB.out.2 (And.intro (fun cs hc=>?_) (fun hn=>?_))
      ·rw [HUF.out,if_pos hok] at hc
       simp only [Option.some.injEq] at hc
       exact ⟨_,ss,rfl,hc,HO.out.2.1.weak (by omega),HO.out.2.2.1.weak (by omega),HF.out.2,by omega⟩
      ·rw [HUF.out,if_pos hok] at hn
       cases hn
     obtain ⟨rfl,rfl⟩:=hok
     clear HO HF HUF HUE
     go_wp2
     exact bodyPost_ret (v:=.tuple #[.slice oa ss.length oc,.bool true]) (by simp [results,Tryz.results119,go_sem]) rfl HY.out
    ·have HN:Hid (uqF N V ts=none):=by unfold Hid;rw [HUF.out,if_neg hok]
     have hok2:(((p:Int) == (N:Int)) && ((L:Int) == 0))=false:=by
      rw [Bool.and_eq_false_iff,beq_eq_false_iff_ne,beq_eq_false_iff_ne]
      omega
     clear HF HUF HUE
     by_cases hpN:p=N
     ·have hL2:((L:Int) == 0)=false:=by rw [beq_eq_false_iff_ne];omega
      subst hpN
      clear HO hok hok2
      go_wp2
      exact bodyPost_ret (v:=.tuple #[.slice oa ss.length oc,.bool false]) (by simp [results,Tryz.results119,go_sem]) rfl (usR.no HB.out.2 HN.out)
     ·have hp2:((p:Int) == (N:Int))=false:=by rw [beq_eq_false_iff_ne];omega
      clear HO hok hok2
      go_wp2
      exact bodyPost_ret (v:=.tuple #[.slice oa ss.length oc,.bool false]) (by simp [results,Tryz.results119,go_sem]) rfl (usR.no HB.out.2 HN.out)
   ·have hlp:0<(ls.length:Int):=by have:=List.length_pos_iff.2 hls;omega
    have HUF:Hid (uqF N V ts=if p=N∧L=0 then some (ss.map Sq.ct++[(ls,0,0)]) else none):=by
     unfold Hid uqF
     rw [HUE.out]
     simp [uqE,hls]
    have HLS:Hid (ls.length≤300∧True):=⟨by omega,trivial⟩
    clear HUE hls
    have HFIN:Hid (∀ (v4:Value) (w4:World),OVq w4 (w.heap.size+1) v4 (ss++[⟨la,lc,ls,0,0⟩])→DeepQ w4 (w.heap.size+1) (ss++[⟨la,lc,ls,0,0⟩])→Below w.heap.size w w4→∀ b:Bool,(b=true↔p=N∧L=0)→usR w w4 N V ts (.returned (.tuple #[v4,.bool b]))):=by
     intro v4 w4 h1 h2 h3 b hb
     cases b with
     | false=>exact usR.no h3 (by rw [HUF.out,if_neg (fun h=>by have:=hb.2 h;cases this)])
     | true=>
      have hok:=hb.1 rfl
      refine And.intro h3 (And.intro (fun cs hc=>?_) (fun hn=>?_))
      ·rw [HUF.out,if_pos hok] at hc
       simp only [Option.some.injEq] at hc
       exact ⟨v4,_,rfl,by rw [←hc,List.map_append];rfl,h1.weak (by omega),h2.weak (by omega),HF.out.2.snoc ⟨by simp,by simp,by simp,by simp,HLS.out.1⟩,by rw [List.length_append];simp;omega⟩
      ·rw [HUF.out,if_pos hok] at hn
       cases hn
    have HAPP:Hid (∀ (v4:Value) (w4:World),OVq w4 (w.heap.size+1) v4 (ss++[⟨la,lc,ls,0,0⟩])→(wr.alloc (Obj.cells #[.slice la ls.length lc,.int .i64 0,.int .i64 0] 209)).grownBy w4 (Value.slice oa ss.length oc).ownBlock→DeepQ w4 (w.heap.size+1) (ss++[⟨la,lc,ls,0,0⟩])∧Below w.heap.size w w4∧w4.cell? ⟨w.heap.size,1,none⟩=some (.int .i64 (N:Nat))):=by
     intro v4 w4 hown hgrow
     obtain ⟨a5,c5,e5,hm5,hr5⟩:=HO.out.1.mineAt
     obtain ⟨rfl,rfl⟩:la=a5∧lc=c5:=by simpa using e5
     have hd5:DeepQ wr (w.heap.size+1) (ss++[⟨la,lc,ls,0,0⟩]):=HO.out.2.2.1.snoc hm5 (fun z hz k hk hk2=>HO.out.2.2.2 z hz k hk (hr5 k hk2))
     have hB4:Below (w.heap.size+1) W0 w4:=(HB.out.1.alloc hsz _).grown hgrow (by simp;omega) (fun k hk=>(HO.out.2.1.blk hk).1)
     exact ⟨(hd5.below ((Below.refl _ _).alloc nl _)).grown (HO.out.2.1.below ((Below.refl _ _).alloc nl _)) hgrow,HBW.out.trans (hB4.mono (by omega)),keep hB4 (by omega) Q.out.2⟩
    by_cases hok:p=N∧L=0
    ·obtain ⟨rfl,rfl⟩:=hok
     go_wp2_with (at_builtin;(refine wpList_append_sq rfl (.tmp 85) (.tmp 88) rfl (w.heap.size+1) (.slice oa ss.length oc) ss rfl (HO.out.2.1.below ((Below.refl _ _).alloc nl _)) wr.heap.size 1 ⟨la,lc,ls,0,0⟩ rfl (newsQ wr la ls.length lc _ _ _ _ rfl rfl rfl rfl rfl) (by omega) (by simp;omega) ?_);intro v4 w4 hown hgrow;have hc9:=(HAPP.out v4 w4 hown hgrow).2.2)
     exact bodyPost_ret (v:=.tuple #[v4,.bool true]) (by simp [results,Tryz.results119,go_sem]) rfl (HFIN.out v4 w4 hown (HAPP.out v4 w4 hown hgrow).1 (HAPP.out v4 w4 hown hgrow).2.1 true (by simp))
    ·by_cases hpN:p=N
     ·have hL2:((L:Int) == 0)=false:=by rw [beq_eq_false_iff_ne];omega
      have HL2:Hid (¬L=0):=fun h=>hok ⟨hpN,h⟩
      subst hpN
      clear hok
      go_wp2_with (at_builtin;(refine wpList_append_sq rfl (.tmp 85) (.tmp 88) rfl (w.heap.size+1) (.slice oa ss.length oc) ss rfl (HO.out.2.1.below ((Below.refl _ _).alloc nl _)) wr.heap.size 1 ⟨la,lc,ls,0,0⟩ rfl (newsQ wr la ls.length lc _ _ _ _ rfl rfl rfl rfl rfl) (by omega) (by simp;omega) ?_);intro v4 w4 hown hgrow;have hc9:=(HAPP.out v4 w4 hown hgrow).2.2)
      exact bodyPost_ret (v:=.tuple #[v4,.bool false]) (by simp [results,Tryz.results119,go_sem]) rfl (HFIN.out v4 w4 hown (HAPP.out v4 w4 hown hgrow).1 (HAPP.out v4 w4 hown hgrow).2.1 false (by have:=HL2.out;simp;omega))
     ·have hp2:((p:Int) == (N:Int))=false:=by rw [beq_eq_false_iff_ne];omega
      have HP2:Hid (¬p=N):=hpN
      clear hok hpN
      go_wp2_with (at_builtin;(refine wpList_append_sq rfl (.tmp 85) (.tmp 88) rfl (w.heap.size+1) (.slice oa ss.length oc) ss rfl (HO.out.2.1.below ((Below.refl _ _).alloc nl _)) wr.heap.size 1 ⟨la,lc,ls,0,0⟩ rfl (newsQ wr la ls.length lc _ _ _ _ rfl rfl rfl rfl rfl) (by omega) (by simp;omega) ?_);intro v4 w4 hown hgrow;have hc9:=(HAPP.out v4 w4 hown hgrow).2.2)
      exact bodyPost_ret (v:=.tuple #[v4,.bool false]) (by simp [results,Tryz.results119,go_sem]) rfl (HFIN.out v4 w4 hown (HAPP.out v4 w4 hown hgrow).1 (HAPP.out v4 w4 hown hgrow).2.1 false (by have:=HP2.out;simp;omega))
def stp (last:Bool) (m:Nat) (s:Sq):Option Nat:=
 if 64<m+s.ls.length then none
 else if s.n=0 then (if s.d=0∧last=true∧0<s.ls.length then some (m+s.ls.length) else none)
 else if 3≤s.n∧s.n≤64-((m+s.ls.length:Nat):Int)∧1≤s.d∧s.d≤((m+s.ls.length:Nat):Int) then some (m+s.ls.length+s.n.toNat)
 else none
def sqc (ss:List Sq):Nat→Option Nat
 | 0=>some 0
 | k+1=>(sqc ss k).bind (fun m=>stp (decide (k+1=ss.length)) m (ss.getD k dq))
def sqn (ss:List Sq):Option Nat:=if 40<ss.length then none else sqc ss ss.length
theorem stp_le {last:Bool} {m:Nat} {s:Sq} {m':Nat} (h:stp last m s=some m'):m'≤64:=by
 unfold stp at h
 split at h
 ·cases h
 ·split at h
  ·split at h
   ·simp at h;omega
   ·cases h
  ·split at h
   ·simp at h;omega
   ·cases h
theorem sqc_le {ss:List Sq} {k m:Nat} (h:sqc ss k=some m):m≤64:=by
 cases k with
 | zero=>simp [sqc] at h;omega
 | succ k=>
  simp only [sqc,Option.bind_eq_some_iff] at h
  obtain ⟨m0,_,h2⟩:=h
  exact stp_le h2
theorem sqc_none {ss:List Sq} {k:Nat} (h:sqc ss k=none):∀ j,k≤j→sqc ss j=none:=by
 intro j hj
 induction j with
 | zero => obtain rfl : k = 0 := by omega
           exact h
 | succ j ih=>
  by_cases hk:k≤j
  ·simp only [sqc,ih hk,Option.bind_none]
  ·obtain rfl:k=j+1:=by omega
   exact h
theorem sqc_step {ss:List Sq} {k m:Nat} (h:sqc ss k=some m):sqc ss (k+1)=stp (decide (k+1=ss.length)) m (ss.getD k dq):=by
 simp only [sqc,h,Option.bind_some]
theorem sqn_none {ss:List Sq} {k m:Nat} (h:sqc ss k=some m) (hk:k<ss.length) (hs:stp (decide (k+1=ss.length)) m (ss.getD k dq)=none):sqn ss=none:=by
 unfold sqn
 split
 ·rfl
 ·exact sqc_none ((sqc_step h).trans hs) _ hk
theorem sqn_some {ss:List Sq} {m:Nat} (h:sqc ss ss.length=some m) (hl:ss.length≤40):sqn ss=some m:=by
 unfold sqn
 rw [if_neg (by omega)]
 exact h
theorem sqn_len {ss:List Sq} (h:40<ss.length):sqn ss=none:=by simp [sqn,h]
theorem sqc_ct {ss ts:List Sq} (h:ss.map Sq.ct=ts.map Sq.ct) (k:Nat):sqc ss k=sqc ts k:=by
 have hl:ss.length=ts.length:=by have:=congrArg List.length h;simpa using this
 induction k with
 | zero=>rfl
 | succ k ih=>
  have hg:(ss.getD k dq).ct=(ts.getD k dq).ct:=by
   have:(ss.map Sq.ct).getD k dq.ct=(ts.map Sq.ct).getD k dq.ct:=by rw [h]
   simpa [List.getD_eq_getElem?_getD,List.getElem?_map,Option.getD_map] using this
  simp only [Sq.ct,Prod.mk.injEq] at hg
  simp only [sqc,ih,hl,stp,hg]
theorem sqn_ct {ss ts:List Sq} (h:ss.map Sq.ct=ts.map Sq.ct):sqn ss=sqn ts:=by
 have hl:ss.length=ts.length:=by have:=congrArg List.length h;simpa using this
 simp only [sqn,hl,sqc_ct h]
theorem stp_over {last:Bool} {m:Nat} {s:Sq} (h:64<m+s.ls.length):stp last m s=none:=by unfold stp;rw [if_pos h]
theorem stp_rest {last:Bool} {m:Nat} {s:Sq} (h:¬64<m+s.ls.length) (h0:s.n=0):stp last m s=if s.d=0∧last=true∧0<s.ls.length then some (m+s.ls.length) else none:=by unfold stp;rw [if_neg h,if_pos h0]
theorem stp_piece {last:Bool} {m:Nat} {s:Sq} (h:¬64<m+s.ls.length) (h0:¬s.n=0):stp last m s=if 3≤s.n∧s.n≤64-((m+s.ls.length:Nat):Int)∧1≤s.d∧s.d≤((m+s.ls.length:Nat):Int) then some (m+s.ls.length+s.n.toNat) else none:=by unfold stp;rw [if_neg h,if_neg h0]
theorem specSeqsOk_any (a:Option Addr) (cap:Nat) (ss:List Sq) (w:World) (hb:Sqs w a ss) (hx:ss.length≤281474976710656) (hxl:∀ s ∈ ss,s.ls.length≤281474976710656) :
  Calls Tryz.prog 120 #[.slice a ss.length cap] w fun e w'=>e=.returned (.bool (sqn ss).isSome)∧Below w.heap.size w w':=by
 by_cases h40:ss.length≤40
 ·have HSS:Hid (Sqs w a ss):=hb
  have HXL:Hid (∀ s ∈ ss,s.ls.length≤281474976710656):=hxl
  have HST:Hid _:=fun k m=>@sqc_step ss k m
  have HNO:Hid _:=fun k m=>@sqn_none ss k m
  have HYE:Hid _:=fun m=>@sqn_some ss m
  clear hb hxl
  generalize hlen:ss.length=n at *
  have HL:Hid (ss.length=n):=hlen
  clear hlen
  go_enter Tryz.func120,Tryz.ntmps120
  go_wp2
  go_loopw [3,4] (fun x i wr=>∃ k m:Nat,k≤n∧m≤64∧i=.int .i64 k∧x=.int .i64 m∧sqc ss k=some m∧Below w.heap.size w wr) (fun _ i _=>n-(intOf i).toNat)
  case atStart=>exact ⟨0,0,Nat.zero_le _,by omega,rfl,rfl,rfl,Below.refl _ _⟩
  case round=>
   obtain ⟨k,m,hk,hm,rfl,rfl,hsq,hbel⟩:=hrel
   have HSQ:Hid (sqc ss k=some m):=hsq
   clear hsq
   by_cases hlt:k<n
   ·obtain ⟨b,off,rfl,hb1,hc1⟩:=(HSS.out.below hbel nl).len_pos k (by rw [HL.out];exact hlt)
    have hli:=hc1 k (by rw [HL.out];exact hlt)
    have hrg:=HSS.out.rng k (by rw [HL.out];exact hlt)
    have hll:=HXL.out _ (getD_memS (k:=k) (by rw [HL.out];exact hlt))
    have HS:=HST.out k m HSQ.out
    have HN:=HNO.out k m HSQ.out hlt
    clear hc1
    generalize ss.getD k dq=s at *
    obtain ⟨sa,sc,sl,sn,sd⟩:=s
    obtain ⟨c0,c1,c2,hby⟩:=hli
    simp only at c0 c1 c2 hrg hll
    obtain ⟨⟨rn1,rn2⟩,⟨rd1,rd2⟩,-⟩:=hrg
    have HB2:Hid (Below w.heap.size w (wr.alloc (Obj.cells #[.slice sa sl.length sc,.int .i64 sn,.int .i64 sd] 209))):=hbel.alloc hbel.size _
    clear hby
    by_cases g1:64<m+sl.length
    ·have HF:Hid (sqn ss=none):=HN (stp_over g1)
     have g1':(64:Int)<(m:Int)+sl.length:=by omega
     clear HS HN
     go_wp2
     go_ret
     exact ⟨by rw [HF.out];rfl,HB2.out⟩
    ·have g1':¬(64:Int)<(m:Int)+sl.length:=by omega
     by_cases g2:sn=0
     ·subst g2
      have E:=stp_rest (last:=decide (k+1=n)) (m:=m) (s:=⟨sa,sc,sl,0,sd⟩) g1 rfl
      simp only at E
      by_cases g3:sd=0
      ·subst g3
       by_cases g4:k+1=n
       ·have g4':¬(k:Int)<(n:Int)-1:=by omega
        by_cases g5:0<sl.length
        ·have HS2:Hid (sqc ss (k+1)=some (m+sl.length)):=by
          rw [E,if_pos ⟨rfl,by simpa using g4,g5⟩] at HS
          exact HS
         have g5':((sl.length:Int) == 0)=false:=by rw [beq_eq_false_iff_ne];omega
         clear HS HN E g4 g5
         go_wp2
         go_roundw
         case rel=>exact ⟨k+1,m+sl.length,by omega,by omega,by go_num,by go_num,HS2.out,HB2.out⟩
         case measure=>simp [intOf];omega
        ·have HF:Hid (sqn ss=none):=HN (by rw [E,if_neg (by omega)])
         have g5':((sl.length:Int) == 0)=true:=by rw [beq_iff_eq];omega
         clear HS HN E g4 g5
         go_wp2
         go_ret
         exact ⟨by rw [HF.out];rfl,HB2.out⟩
       ·have HF:Hid (sqn ss=none):=HN (by rw [E,if_neg (by simp;omega)])
        have g4':(k:Int)<(n:Int)-1:=by omega
        clear HS HN E g4
        go_wp2
        go_ret
        exact ⟨by rw [HF.out];rfl,HB2.out⟩
      ·have HF:Hid (sqn ss=none):=HN (by rw [E,if_neg (by omega)])
       have g3':(sd != 0)=true:=by rw [bne_iff_ne];exact g3
       clear HS HN E g3
       go_wp2
       go_ret
       exact ⟨by rw [HF.out];rfl,HB2.out⟩
     ·have E:=stp_piece (last:=decide (k+1=n)) (m:=m) (s:=⟨sa,sc,sl,sn,sd⟩) g1 g2
      simp only at E
      have g2':(sn == 0)=false:=by simpa using g2
      clear g2
      by_cases q:3≤sn∧sn≤64-((m+sl.length:Nat):Int)∧1≤sd∧sd≤((m+sl.length:Nat):Int)
      ·have HS2:Hid (sqc ss (k+1)=some (m+sl.length+sn.toNat)):=by
        rw [E,if_pos q] at HS
        exact HS
       obtain ⟨q1,q2,q3,q4⟩:=q
       have q2':sn≤64-((m:Int)+sl.length):=by omega
       have q4':sd≤(m:Int)+sl.length:=by omega
       clear HS HN E q2 q4
       go_wp2
       go_roundw
       case rel=>exact ⟨k+1,m+sl.length+sn.toNat,by omega,by omega,by go_num,by go_num,HS2.out,HB2.out⟩
       case measure=>simp [intOf];omega
      ·have HF:Hid (sqn ss=none):=HN (by rw [E,if_neg q])
       have key:sn<3∨(3≤sn∧64-((m:Int)+sl.length)<sn)∨(3≤sn∧sn≤64-((m:Int)+sl.length)∧sd<1)∨(3≤sn∧sn≤64-((m:Int)+sl.length)∧1≤sd∧(m:Int)+sl.length<sd):=by omega
       clear HS HN E q
       rcases key with q1 | ⟨q1,q2⟩ | ⟨q1,q2,q3⟩ | ⟨q1,q2,q3,q4⟩
       all_goals
        go_wp2
        go_ret
        exact ⟨by rw [HF.out];rfl,HB2.out⟩
   ·have hkn:k=n:=by omega
    subst hkn
    have HF:Hid (sqn ss=some m):=HYE.out m HSQ.out h40
    go_wp2
    go_ret
    exact ⟨by rw [HF.out];rfl,hbel⟩
 ·have HF:Hid (sqn ss=none):=sqn_len (by omega)
  go_enter Tryz.func120,Tryz.ntmps120
  go_wp2
  go_ret
  exact ⟨by rw [HF.out];rfl,Below.refl _ _⟩
theorem isPiece_any (a:Option Addr) (c:Nat) (zs:List Int) (n d:Int) (m:Nat) (w:World) (hm:m≤64) (rn:rI n) (rd:rI d) :
  Calls Tryz.prog 232 #[.agg #[.slice a zs.length c,.int .i64 n,.int .i64 d],.int .i64 m] w fun e w'=>e=.returned (.bool (decide (3≤n∧n≤64-(m:Int)∧1≤d∧d≤(m:Int))))∧Below w.heap.size w w':=by
 have hw:Below w.heap.size w (w.alloc (Obj.cells #[.slice a zs.length c,.int .i64 n,.int .i64 d] 209)):=bAw
 obtain ⟨rn1,rn2⟩:=rn
 obtain ⟨rd1,rd2⟩:=rd
 by_cases q:3≤n∧n≤64-(m:Int)∧1≤d∧d≤(m:Int)
 ·have HE:Hid (decide (3≤n∧n≤64-(m:Int)∧1≤d∧d≤(m:Int))=true):=by simpa [Hid] using q
  generalize decide (3≤n∧n≤64-(m:Int)∧1≤d∧d≤(m:Int))=E at *
  obtain ⟨q1,q2,q3,q4⟩:=q
  go_enter Tryz.func232,Tryz.ntmps232
  go_wp2
  go_ret
  exact ⟨by rw [HE.out];first | rfl | (simp;omega),hw⟩
 ·have HE:Hid (decide (3≤n∧n≤64-(m:Int)∧1≤d∧d≤(m:Int))=false):=by simpa only [Hid,decide_eq_false_iff_not] using q
  have key:n<3∨(3≤n∧64-(m:Int)<n)∨(3≤n∧n≤64-(m:Int)∧d<1)∨(3≤n∧n≤64-(m:Int)∧1≤d∧(m:Int)<d):=by omega
  generalize decide (3≤n∧n≤64-(m:Int)∧1≤d∧d≤(m:Int))=E at *
  clear q
  rcases key with q1 | ⟨q1,q2⟩ | ⟨q1,q2,q3⟩ | ⟨q1,q2,q3,q4⟩
  all_goals
   go_enter Tryz.func232,Tryz.ntmps232
   go_wp2
   go_ret
   exact ⟨by rw [HE.out];first | rfl | (simp;omega),hw⟩
theorem isRest_any (a:Option Addr) (c:Nat) (zs:List Int) (n d:Int) (w:World) (hl:zs.length≤281474976710656) :
  Calls Tryz.prog 233 #[.agg #[.slice a zs.length c,.int .i64 n,.int .i64 d]] w fun e w'=>e=.returned (.bool (decide (n=0∧d=0∧0<zs.length)))∧Below w.heap.size w w':=by
 have hw:Below w.heap.size w (w.alloc (Obj.cells #[.slice a zs.length c,.int .i64 n,.int .i64 d] 209)):=bAw
 by_cases q1:n=0
 ·by_cases q2:d=0
  ·by_cases q3:0<zs.length
   ·have HE:Hid (decide (n=0∧d=0∧0<zs.length)=true):=by unfold Hid;rw [decide_eq_true_eq];exact ⟨q1,q2,q3⟩
    generalize decide (n=0∧d=0∧0<zs.length)=E at *
    subst q1 q2
    have q3':(0:Int)<zs.length:=by omega
    go_enter Tryz.func233,Tryz.ntmps233
    go_wp2
    go_ret
    exact ⟨by rw [HE.out];first | rfl | (simp;omega),hw⟩
   ·have HE:Hid (decide (n=0∧d=0∧0<zs.length)=false):=by unfold Hid;rw [decide_eq_false_iff_not];exact fun h=>q3 h.2.2
    generalize decide (n=0∧d=0∧0<zs.length)=E at *
    subst q1 q2
    obtain rfl:zs=[]:=List.eq_nil_of_length_eq_zero (by omega)
    clear q3
    go_enter Tryz.func233,Tryz.ntmps233
    go_wp2
    go_ret
    exact ⟨by rw [HE.out];first | rfl | (simp;omega),hw⟩
  ·have HE:Hid (decide (n=0∧d=0∧0<zs.length)=false):=by unfold Hid;rw [decide_eq_false_iff_not];exact fun h=>q2 h.2.1
   have q2':(d == 0)=false:=by rw [beq_eq_false_iff_ne];exact q2
   generalize decide (n=0∧d=0∧0<zs.length)=E at *
   subst q1
   clear q2
   go_enter Tryz.func233,Tryz.ntmps233
   go_wp2
   go_ret
   exact ⟨by rw [HE.out];first | rfl | (simp;omega),hw⟩
 ·have HE:Hid (decide (n=0∧d=0∧0<zs.length)=false):=by unfold Hid;rw [decide_eq_false_iff_not];exact fun h=>q1 h.1
  have q1':(n == 0)=false:=by rw [beq_eq_false_iff_ne];exact q1
  generalize decide (n=0∧d=0∧0<zs.length)=E at *
  clear q1
  go_enter Tryz.func233,Tryz.ntmps233
  go_wp2
  go_ret
  exact ⟨by rw [HE.out];first | rfl | (simp;omega),hw⟩
def sqz (ss:List Sq):Int:=match sqn ss with
 | some m=>m
 | none=>-1
theorem sqz_none {ss:List Sq} (h:sqn ss=none):sqz ss=-1:=by simp [sqz,h]
theorem sqz_some {ss:List Sq} {m:Nat} (h:sqn ss=some m):sqz ss=m:=by simp [sqz,h]
theorem stp_yes1 {last:Bool} {m:Nat} {s:Sq} (h:¬64<m+s.ls.length) (q:3≤s.n∧s.n≤64-((m+s.ls.length:Nat):Int)∧1≤s.d∧s.d≤((m+s.ls.length:Nat):Int)):stp last m s=some (m+s.ls.length+s.n.toNat):=by
 rw [stp_piece h (by omega),if_pos q]
theorem stp_yes2 {last:Bool} {m:Nat} {s:Sq} (h:¬64<m+s.ls.length) (hl:last=true) (q:s.n=0∧s.d=0∧0<s.ls.length):stp last m s=some (m+s.ls.length+s.n.toNat):=by
 rw [stp_rest h q.1,if_pos ⟨q.2.1,hl,q.2.2⟩,q.1]
 simp
theorem stp_no {last:Bool} {m:Nat} {s:Sq} (h:¬64<m+s.ls.length) (q1:¬(3≤s.n∧s.n≤64-((m+s.ls.length:Nat):Int)∧1≤s.d∧s.d≤((m+s.ls.length:Nat):Int))) (q2:¬(last=true∧s.n=0∧s.d=0∧0<s.ls.length)):stp last m s=none:=by
 by_cases h0:s.n=0
 ·rw [stp_rest h h0,if_neg (fun hh=>q2 ⟨hh.2.1,h0,hh.1,hh.2.2⟩)]
 ·rw [stp_piece h h0,if_neg q1]
theorem implSeqBytes_any (a:Option Addr) (cap:Nat) (ss:List Sq) (w:World) (hb:Sqs w a ss) (hx:ss.length≤281474976710656) (hxl:∀ s ∈ ss,s.ls.length≤281474976710656) :
  Calls Tryz.prog 219 #[.slice a ss.length cap] w fun e w'=>e=.returned (.int .i64 (sqz ss))∧Below w.heap.size w w':=by
 by_cases h40:ss.length≤40
 ·have HSS:Hid (Sqs w a ss):=hb
  have HXL:Hid (∀ s ∈ ss,s.ls.length≤281474976710656):=hxl
  have HST:Hid _:=fun k m=>@sqc_step ss k m
  have HNO:Hid _:=fun k m=>@sqn_none ss k m
  have HYE:Hid _:=fun m=>@sqn_some ss m
  have HZN:Hid _:=@sqz_none ss
  have HZS:Hid _:=@sqz_some ss
  clear hb hxl
  generalize hlen:ss.length=n at *
  have HL:Hid (ss.length=n):=hlen
  clear hlen
  generalize sqz ss=Z at *
  go_enter Tryz.func219,Tryz.ntmps219
  go_wp2
  go_loopw [3,12] (fun x i wr=>∃ k m:Nat,k≤n∧m≤64∧i=.int .i64 k∧x=.int .i64 m∧sqc ss k=some m∧Below w.heap.size w wr) (fun _ i _=>n-(intOf i).toNat)
  case atStart=>exact ⟨0,0,Nat.zero_le _,by omega,rfl,rfl,rfl,Below.refl _ _⟩
  case round=>
   obtain ⟨k,m,hk,hm,rfl,rfl,hsq,hbel⟩:=hrel
   have HSQ:Hid (sqc ss k=some m):=hsq
   clear hsq
   by_cases hlt:k<n
   ·obtain ⟨b,off,rfl,hb1,hc1⟩:=(HSS.out.below hbel nl).len_pos k (by rw [HL.out];exact hlt)
    have hli:=hc1 k (by rw [HL.out];exact hlt)
    have hrg:=HSS.out.rng k (by rw [HL.out];exact hlt)
    have hll:=HXL.out _ (getD_memS (k:=k) (by rw [HL.out];exact hlt))
    have HS:=HST.out k m HSQ.out
    have HN:=HNO.out k m HSQ.out hlt
    clear hc1
    generalize ss.getD k dq=s at *
    obtain ⟨sa,sc,sl,sn,sd⟩:=s
    obtain ⟨c0,c1,c2,hby⟩:=hli
    simp only at c0 c1 c2 hrg hll
    have HRG:Hid (rI sn∧rI sd):=⟨hrg.1,hrg.2.1⟩
    obtain ⟨⟨rn1,rn2⟩,⟨rd1,rd2⟩,-⟩:=hrg
    have HB2:Hid (Below w.heap.size w (wr.alloc (Obj.cells #[.slice sa sl.length sc,.int .i64 sn,.int .i64 sd] 209))):=hbel.alloc hbel.size _
    have HW:Hid (wr.heap.size<(wr.alloc (Obj.cells #[.slice sa sl.length sc,.int .i64 sn,.int .i64 sd] 209)).heap.size):=by simp [Hid]
    clear hby
    by_cases g1:64<m+sl.length
    ·have HF:Hid (Z=-1):=HZN.out (HN (stp_over g1))
     have g1':64-(m:Int)<sl.length:=by omega
     clear HS HN
     go_wp2
     go_ret
     exact ⟨by rw [HF.out];rfl,HB2.out⟩
    ·have g1':¬64-(m:Int)<sl.length:=by omega
     have HN1:=fun q1 q2=>HN (stp_no (s:=⟨sa,sc,sl,sn,sd⟩) g1 q1 q2)
     have HY1:=fun q=>HS.trans (stp_yes1 (s:=⟨sa,sc,sl,sn,sd⟩) g1 q)
     have HY2:=fun hl q=>HS.trans (stp_yes2 (s:=⟨sa,sc,sl,sn,sd⟩) g1 hl q)
     simp only at HN1 HY1 HY2
     have r0:(wr.alloc (Obj.cells #[.slice sa sl.length sc,.int .i64 sn,.int .i64 sd] 209)).cell? ⟨wr.heap.size,0,none⟩=some (.slice sa sl.length sc):=by simp
     have r1:(wr.alloc (Obj.cells #[.slice sa sl.length sc,.int .i64 sn,.int .i64 sd] 209)).cell? ⟨wr.heap.size,1,none⟩=some (.int .i64 sn):=by simp
     have r2:(wr.alloc (Obj.cells #[.slice sa sl.length sc,.int .i64 sn,.int .i64 sd] 209)).cell? ⟨wr.heap.size,2,none⟩=some (.int .i64 sd):=by simp
     have HPC:=isPiece_any sa sc sl sn sd (m+sl.length) (wr.alloc (Obj.cells #[.slice sa sl.length sc,.int .i64 sn,.int .i64 sd] 209)) (by omega) HRG.out.1 HRG.out.2
     have hcast:((m+sl.length:Nat):Int)=(m:Int)+sl.length:=by omega
     rw [hcast] at HPC HN1 HY1
     clear HS HN hcast
     go_wp2_with fail
     generalize wr.alloc (Obj.cells #[.slice sa sl.length sc,.int .i64 sn,.int .i64 sd] 209)=W at *
     refine HPC.mono ?_
     clear HPC
     rintro e w1 ⟨rfl,hb2⟩
     have q0:=keep hb2 HW.out r0
     have q1:=keep hb2 HW.out r1
     have q2:=keep hb2 HW.out r2
     have HB3:Hid (Below w.heap.size w w1):=HB2.out.trans (hb2.mono HB2.out.size)
     clear hb2 r0 r1 r2 c0 c1 c2
     by_cases q:3≤sn∧sn≤64-((m:Int)+sl.length)∧1≤sd∧sd≤(m:Int)+sl.length
     ·rw [decide_eq_true q]
      have HS2:Hid (sqc ss (k+1)=some (m+sl.length+sn.toNat)):=HY1 q
      obtain ⟨u1,u2,u3,u4⟩:=q
      clear HN1 HY1 HY2
      go_wp2
      go_roundw
      case rel=>exact ⟨k+1,m+sl.length+sn.toNat,by omega,by omega,by go_num,by go_num,HS2.out,HB3.out⟩
      case measure=>simp [intOf];omega
     ·rw [decide_eq_false q]
      have HNQ:Hid (¬(3≤sn∧sn≤64-((m:Int)+sl.length)∧1≤sd∧sd≤(m:Int)+sl.length)):=q
      clear HY1 q
      by_cases hla:k+1=n
      ·have hla':((k:Int) == (n:Int)-1)=true:=by rw [beq_iff_eq];omega
       have HRS:=isRest_any sa sc sl sn sd w1 hll
       go_wp2_with fail
       refine HRS.mono ?_
       clear HRS
       rintro e w2 ⟨rfl,hb4⟩
       have hz1:wr.heap.size<w1.heap.size:=World.block_lt_of_cell? _ _ q0
       have v1:=keep hb4 hz1 q1
       have HB4:Hid (Below w.heap.size w w2):=HB3.out.trans (hb4.mono HB3.out.size)
       clear hb4 q0 q1 q2
       by_cases qr:sn=0∧sd=0∧0<sl.length
       ·rw [decide_eq_true qr]
        have HS2:Hid (sqc ss (k+1)=some (m+sl.length+sn.toNat)):=HY2 (by simpa using hla) qr
        obtain ⟨rfl,rfl,u3⟩:=qr
        clear HN1 HY2
        go_wp2
        go_roundw
        case rel=>exact ⟨k+1,m+sl.length+(0:Int).toNat,by omega,by simp;omega,by go_num,by go_num,HS2.out,HB4.out⟩
        case measure=>simp [intOf];omega
       ·rw [decide_eq_false qr]
        have HF:Hid (Z=-1):=HZN.out (HN1 HNQ.out (fun h=>qr h.2))
        clear HN1 HY2 qr
        go_wp2
        go_ret
        exact ⟨by rw [HF.out];rfl,HB4.out⟩
      ·have hla':((k:Int) == (n:Int)-1)=false:=by rw [beq_eq_false_iff_ne];omega
       have HF:Hid (Z=-1):=HZN.out (HN1 HNQ.out (fun h=>hla (by simpa using h.1)))
       clear HN1 HY2
       go_wp2
       go_ret
       exact ⟨by rw [HF.out];rfl,HB3.out⟩
   ·have hkn:k=n:=by omega
    subst hkn
    have HF:Hid (Z=(m:Int)):=HZS.out (HYE.out m HSQ.out h40)
    go_wp2
    go_ret
    exact ⟨by rw [HF.out];rfl,hbel⟩
 ·have HF:Hid (sqz ss=-1):=sqz_none (sqn_len (by omega))
  go_enter Tryz.func219,Tryz.ntmps219
  go_wp2
  go_ret
  exact ⟨by rw [HF.out];rfl,Below.refl _ _⟩
theorem implSeqsOk_any (a:Option Addr) (cap:Nat) (ss:List Sq) (w:World) (hb:Sqs w a ss) (hx:ss.length≤281474976710656) (hxl:∀ s ∈ ss,s.ls.length≤281474976710656) :
  Calls Tryz.prog 218 #[.slice a ss.length cap] w fun e w'=>e=.returned (.bool (sqn ss).isSome)∧Below w.heap.size w w':=by
 have HSB:=implSeqBytes_any a cap ss w hb hx hxl
 cases hs:sqn ss with
 | none=>
  rw [sqz_none hs] at HSB
  go_enter Tryz.func218,Tryz.ntmps218
  go_wp2_with fail
  refine HSB.mono ?_
  rintro e w1 ⟨rfl,hb1⟩
  clear HSB
  go_wp2
  go_ret
  exact ⟨rfl,hb1⟩
 | some m=>
  rw [sqz_some hs] at HSB
  go_enter Tryz.func218,Tryz.ntmps218
  go_wp2_with fail
  refine HSB.mono ?_
  rintro e w1 ⟨rfl,hb1⟩
  clear HSB
  go_wp2
  go_ret
  exact ⟨rfl,hb1⟩
def soR (w w':World) (N V:Nat) (ts:List Int) (e:Ending):Prop:=Below w.heap.size w w' ∧
 (∀ cs,uqF N V ts=some cs→∃ v ss,(ss.map Sq.ct=cs∧OVq w' w.heap.size v ss∧DeepQ w' w.heap.size ss∧Sml ss∧ss.length≤301)∧((sqn ss).isSome=true→e=.returned (.tuple #[v,.nilIface]))∧((sqn ss).isSome=false→∃ T y u,e=.returned (.tuple #[u,.iface T y]))) ∧
 (uqF N V ts=none→∃ T y u,e=.returned (.tuple #[u,.iface T y]))
theorem soR.no {w w':World} {N V:Nat} {ts:List Int} {u y:Value} {T:TypeId} (hb:Below w.heap.size w w') (h:uqF N V ts=none):soR w w' N V ts (.returned (.tuple #[u,.iface T y])):=
 And.intro hb (And.intro (fun cs hc=>by rw [h] at hc;cases hc) (fun _=>⟨_,_,_,rfl⟩))
theorem below_dS {B:Nat} {a b:World} (h:Below B a b) (n:Nat):Below B a (b.drewN n):=⟨h.os,h.tape,h.output,h.size,h.block⟩
theorem seqsOf_any (a:Option Addr) (cap:Nat) (ts:List Int) (x:Option Addr) (cx:Nat) (zs:List Int) (N V:Nat) (w:World) (ha:Ins w a ts) (hx:Byt w x zs) (hz:zs=enc N V) (hN:N≤4096) (ht:∀ s ∈ ts,0≤s∧s<40) (hl:ts.length≤300) (hcap:ts.length≤cap)
  (s0:Sent w 17) (s1:Sent w 18) (s2:Sent w 22) (s3:Sent w 15) (s4:Sent w 13) (hG:17<w.heap.size∧18<w.heap.size∧22<w.heap.size∧15<w.heap.size∧13<w.heap.size) :
  Calls Tryz.prog 201 #[.slice a ts.length cap,.agg #[.slice x zs.length cx,.int .i64 N]] w fun e w'=>soR w w' N V ts e:=by
 have HE:Hid (Sent w 17∧Sent w 18∧Sent w 22∧Sent w 15∧Sent w 13):=⟨s0,s1,s2,s3,s4⟩
 have HIN:Hid (Ins w a ts∧Byt w x zs∧zs=enc N V∧(∀ s ∈ ts,0≤s∧s<40)∧ts.length≤300):=⟨ha,hx,hz,ht,hl⟩
 have HTL:Hid (∃ k,ts.length=k):=⟨_,rfl⟩
 obtain ⟨n,hn⟩:=HTL.out
 rw [hn] at hl hcap ⊢
 have HNL:Hid (ts.length=n):=hn
 clear s0 s1 s2 s3 s4 ha hx hz ht hn HTL
 go_enter Tryz.func201,Tryz.ntmps201
 have HST:Hid (SR w (((w.alloc (Obj.cells #[.slice x zs.length cx,.int .i64 N] 155)).alloc (Obj.cells #[.slice x zs.length cx,.int .i64 N,.int .i64 0] 261)).alloc (Obj.cells #[.slice a n cap,.pointer (some ⟨w.heap.size+1,0,none⟩)] 282)) w.heap.size (w.heap.size+1+1) (w.heap.size+1) ts ∧
   RD (((w.alloc (Obj.cells #[.slice x zs.length cx,.int .i64 N] 155)).alloc (Obj.cells #[.slice x zs.length cx,.int .i64 N,.int .i64 0] 261)).alloc (Obj.cells #[.slice a n cap,.pointer (some ⟨w.heap.size+1,0,none⟩)] 282)) w.heap.size (w.heap.size+1) x zs.length cx N 0 ∧
   Below w.heap.size w (((w.alloc (Obj.cells #[.slice x zs.length cx,.int .i64 N] 155)).alloc (Obj.cells #[.slice x zs.length cx,.int .i64 N,.int .i64 0] 261)).alloc (Obj.cells #[.slice a n cap,.pointer (some ⟨w.heap.size+1,0,none⟩)] 282)) ∧
   w.heap.size+3≤(((w.alloc (Obj.cells #[.slice x zs.length cx,.int .i64 N] 155)).alloc (Obj.cells #[.slice x zs.length cx,.int .i64 N,.int .i64 0] 261)).alloc (Obj.cells #[.slice a n cap,.pointer (some ⟨w.heap.size+1,0,none⟩)] 282)).heap.size):=by
  refine ⟨⟨a,cap,?_,HIN.out.1,by rw [HNL.out];exact hcap,by omega⟩,⟨?_,by omega,by simp;omega⟩,(((Below.refl _ _).alloc nl _).alloc (by simp) _).alloc (by simp;omega) _,by simp⟩
  ·rw [HNL.out]
   have:=heap_alloc_new ((w.alloc (Obj.cells #[.slice x zs.length cx,.int .i64 N] 155)).alloc (Obj.cells #[.slice x zs.length cx,.int .i64 N,.int .i64 0] 261)) (Obj.cells #[.slice a n cap,.pointer (some ⟨w.heap.size+1,0,none⟩)] 282)
   simpa using this
  ·have h1:=heap_alloc_new (w.alloc (Obj.cells #[.slice x zs.length cx,.int .i64 N] 155)) (Obj.cells #[.slice x zs.length cx,.int .i64 N,.int .i64 0] 261)
   have h2:((w.alloc (Obj.cells #[.slice x zs.length cx,.int .i64 N] 155)).alloc (Obj.cells #[.slice x zs.length cx,.int .i64 N,.int .i64 0] 261)).heap[w.heap.size+1]?=some (Obj.cells #[.slice x zs.length cx,.int .i64 N,.int .i64 0] 261 (0,0)):=by simpa using h1
   exact ((Below.refl _ ((w.alloc (Obj.cells #[.slice x zs.length cx,.int .i64 N] 155)).alloc (Obj.cells #[.slice x zs.length cx,.int .i64 N,.int .i64 0] 261))).alloc nl _).block (w.heap.size+1) (by simp) |>.trans h2
 go_wp2
 generalize ((w.alloc (Obj.cells #[.slice x zs.length cx,.int .i64 N] 155)).alloc (Obj.cells #[.slice x zs.length cx,.int .i64 N,.int .i64 0] 261)).alloc (Obj.cells #[.slice a n cap,.pointer (some ⟨w.heap.size+1,0,none⟩)] 282)=W3 at *
 go_loopw [7] (fun lv wr=>∃ (rest:List Int) (p:Nat) (ss:List Sq) (oa:Option Addr) (oc:Nat),lv=.slice oa ss.length oc∧(SR w wr w.heap.size (w.heap.size+1+1) (w.heap.size+1) rest∧RD wr w.heap.size (w.heap.size+1) x zs.length cx N p∧Below w.heap.size w wr∧w.heap.size+3≤wr.heap.size)∧(p≤N∧rest.length+ss.length≤300∧∀ z ∈ rest,z ∈ ts)∧uqE N (uq N V rest p [] 0 (ss.map Sq.ct))=uqF N V ts∧Sml ss∧OVq wr (w.heap.size+3) (.slice oa ss.length oc) ss∧DeepQ wr (w.heap.size+3) ss) (fun _ wr=>lenAt (w.heap.size+1+1) wr)
 case atStart=>exact ⟨ts,0,[],none,0,rfl,HST.out,⟨by omega,by rw [HNL.out];simpa using hl,fun _ h=>h⟩,rfl,Sml.nil,OVq.nil _ _,DeepQ.nil _ _⟩
 case round=>
  clear HST
  obtain ⟨rest,p,ss,oa,oc,rfl,hst,⟨hp,hrs,hsub⟩,hu,hsm,hoq,hdq⟩:=hrel
  have HT:Hid ((SR w wr w.heap.size (w.heap.size+1+1) (w.heap.size+1) rest∧RD wr w.heap.size (w.heap.size+1) x zs.length cx N p∧Below w.heap.size w wr∧w.heap.size+3≤wr.heap.size)∧uqE N (uq N V rest p [] 0 (ss.map Sq.ct))=uqF N V ts∧Sml ss∧OVq wr (w.heap.size+3) (.slice oa ss.length oc) ss∧DeepQ wr (w.heap.size+3) ss∧∀ z ∈ rest,z ∈ ts):=⟨hst,hu,hsm,hoq,hdq,hsub⟩
  obtain ⟨qa,qc,hq1,-⟩:=hst.1
  have q0:wr.cell? ⟨w.heap.size+1+1,0,none⟩=some (.slice qa rest.length qc):=cellRR (j:=0) hq1 rfl
  have q1:wr.cell? ⟨w.heap.size+1+1,1,none⟩=some (.pointer (some ⟨w.heap.size+1,0,none⟩)):=cellRR (j:=1) hq1 rfl
  have HLA:Hid (lenAt (w.heap.size+1+1) wr=rest.length∧True):=⟨hst.1.lenAt,trivial⟩
  clear hst hu hsm hoq hdq hq1 hsub
  by_cases hre:rest=[]
  ·subst hre
   have HC:=HT.out.1.2.1.left (by omega) (by omega)
   have HUE:Hid (uqF N V ts=if p=N then some (ss.map Sq.ct) else none):=by
    unfold Hid
    rw [←HT.out.2.1]
    simp [uq,uqE]
   simp only [List.length_nil] at q0
   go_wp2_with fail
   refine HC.mono ?_
   clear HC q0 q1
   rintro e w2 ⟨rfl,m,rfl⟩
   by_cases hpN:p=N
   ·subst hpN
    have hp0:¬(0:Int)<(p:Int)-(p:Int):=by omega
    have hsq:Sqs wr oa ss:=HT.out.2.2.2.1.sqs (fun z hz=>⟨HT.out.2.2.1.rng z hz,HT.out.2.2.2.2.1.byt hz⟩)
    have HSQ:Hid (Sqs (wr.drewN m) oa ss):=hsq.below (below_dS (Below.refl wr.heap.size wr) m) nl
    clear hsq
    have HUY:Hid (uqF p V ts=some (ss.map Sq.ct)∧True):=⟨by rw [HUE.out];simp,trivial⟩
    clear HUE
    have HC:=implSeqsOk_any oa oc ss (wr.drewN m) HSQ.out (by omega) (fun z hz=>by have:=HT.out.2.2.1 z hz;omega)
    go_wp2_with fail
    refine HC.mono ?_
    clear HC
    rintro e w3 ⟨rfl,hb3⟩
    have HB3:Hid (Below w.heap.size w w3∧OVq w3 w.heap.size (.slice oa ss.length oc) ss∧DeepQ w3 w.heap.size ss):=by
     have hb4:Below wr.heap.size wr w3:=⟨hb3.os,hb3.tape,hb3.output,hb3.size,hb3.block⟩
     exact ⟨HT.out.1.2.2.1.trans (hb4.mono (by have:=HT.out.1.2.2.2;omega)),(HT.out.2.2.2.1.below hb4).weak (by omega),(HT.out.2.2.2.2.1.below hb4).weak (by omega)⟩
    clear hb3
    cases hso:(sqn ss).isSome with
    | true=>
     have HY:Hid (soR w w3 p V ts (.returned (.tuple #[.slice oa ss.length oc,.nilIface]))):=by
      refine And.intro HB3.out.1 (And.intro (fun cs hc=>?_) (fun hn=>?_))
      ·rw [HUY.out.1] at hc
       simp only [Option.some.injEq] at hc
       exact ⟨_,ss,⟨hc,HB3.out.2.1,HB3.out.2.2,HT.out.2.2.1,by omega⟩,fun _=>rfl,fun h=>by rw [hso] at h;cases h⟩
      ·rw [HUY.out.1] at hn
       cases hn
     clear HSQ HUY hso
     go_wp2
     exact bodyPost_ret (v:=.tuple #[.slice oa ss.length oc,.nilIface]) (by simp [results,Tryz.results201,go_sem]) rfl HY.out
    | false=>
     obtain ⟨T9,y9,he9⟩:=HE.out.2.2.2.2.below HB3.out.1 hG.2.2.2.2
     have HY:Hid (∀ m',soR w (w3.drewN m') p V ts (.returned (.tuple #[.slice none 0 0,.iface T9 y9]))):=by
      intro m'
      refine And.intro (below_dS HB3.out.1 m') (And.intro (fun cs hc=>?_) (fun hn=>⟨_,_,_,rfl⟩))
      rw [HUY.out.1] at hc
      simp only [Option.some.injEq] at hc
      exact ⟨_,ss,⟨hc,HB3.out.2.1.below (below_dS (Below.refl _ _) m'),HB3.out.2.2.below (below_dS (Below.refl _ _) m'),HT.out.2.2.1,by omega⟩,fun h=>(by first | (rw [hso] at h;cases h) | (cases h)),fun _=>⟨_,_,_,rfl⟩⟩
     clear HSQ HUY hso
     go_wp2
     go_quiet (fail)
     go_wp2
     exact bodyPost_ret (v:=.tuple #[.slice none 0 0,.iface T9 y9]) (by simp [results,Tryz.results201,go_sem]) rfl (HY.out _)
   ·have hp0:(0:Int)<(N:Int)-(p:Int):=by omega
    have HN:Hid (uqF N V ts=none):=by unfold Hid;rw [HUE.out,if_neg hpN]
    have hbm:Below w.heap.size w (wr.drewN m):=below_dS HT.out.1.2.2.1 m
    obtain ⟨T9,y9,he9⟩:=HE.out.2.2.2.1.below hbm hG.2.2.2.1
    have HBM:Hid (Below w.heap.size w (wr.drewN m)):=hbm
    clear hbm HUE HT HLA
    generalize wr.drewN m=w2 at *
    go_wp2
    go_quiet (fail)
    go_wp2
    exact bodyPost_ret (v:=.tuple #[.slice none 0 0,.iface T9 y9]) (by simp [results,Tryz.results201,go_sem]) rfl (soR.no (below_dS HBM.out _) HN.out)
  ·have hrp:0<rest.length:=List.length_pos_iff.2 hre
   have hrp2:(0:Int)<(rest.length:Int):=by omega
   have HC:=seq_any w.heap.size (w.heap.size+1+1) (w.heap.size+1) rest x cx zs N V p w wr rfl HT.out.1.2.2.1 HT.out.1.1 HT.out.1.2.1 hp HIN.out.2.1 HIN.out.2.2.1 hN (fun z hz=>HIN.out.2.2.2.1 z (HT.out.2.2.2.2.2 z hz)) (by omega) hre HE.out.1 HE.out.2.1 HE.out.2.2.1 ⟨hG.1,hG.2.1,hG.2.2.1⟩
   go_wp2_with fail
   refine HC.mono ?_
   clear HC q0 q1
   rintro e w2 (⟨lv2,ls,sn,sd,rest2,p2,rfl,hsr2,hrd2,hp2,hov2,hon2,hlen2,hnd2,hsub2,hu2⟩ | ⟨⟨T,y,va,vl,vc,v1,v2,rfl⟩,hbad,hon2⟩)
   ·obtain ⟨la,lc,rfl⟩:=hov2.form
    have hA2:Below w2.heap.size w2 ((w2.alloc (Obj.cells #[.slice la ls.length lc,.int .i64 sn,.int .i64 sd] 209)).alloc (Obj.cells #[.slice la ls.length lc,.int .i64 sn,.int .i64 sd] 209)):=((Below.refl _ _).alloc nl _).alloc (by simp) _
    have hw2:wr.heap.size≤w2.heap.size:=hon2.size
    have hw3:=HT.out.1.2.2.2
    have hoq2:OVq w2 (w.heap.size+3) (.slice oa ss.length oc) ss:=HT.out.2.2.2.1.stay hon2 (fun k hk=>by have:=HT.out.2.2.2.1.blk hk;omega)
    have hdq2:DeepQ w2 (w.heap.size+3) ss:=HT.out.2.2.2.2.1.stay hon2 (fun z hz k hk=>by have:=(HT.out.2.2.2.2.1.mine z hz).rowB hk;omega)
    have hdq3:DeepQ w2 (w.heap.size+3) (ss++[⟨la,lc,ls,sn,sd⟩]):=by
     obtain ⟨a5,c5,e5,hm5,hr5⟩:=hov2.mineAt
     obtain ⟨rfl,rfl⟩:la=a5∧lc=c5:=by simpa using e5
     refine hdq2.snoc (hm5.mono (by omega) nl) (fun z hz k hk hk2=>?_)
     have h1:=((HT.out.2.2.2.2.1.mine z hz).rowB hk).2
     have h2:=hov2.blk (hr5 k hk2)
     omega
    have HO2:Hid (OVq ((w2.alloc (Obj.cells #[.slice la ls.length lc,.int .i64 sn,.int .i64 sd] 209)).alloc (Obj.cells #[.slice la ls.length lc,.int .i64 sn,.int .i64 sd] 209)) (w.heap.size+3) (.slice oa ss.length oc) ss∧DeepQ ((w2.alloc (Obj.cells #[.slice la ls.length lc,.int .i64 sn,.int .i64 sd] 209)).alloc (Obj.cells #[.slice la ls.length lc,.int .i64 sn,.int .i64 sd] 209)) (w.heap.size+3) (ss++[⟨la,lc,ls,sn,sd⟩])):=⟨hoq2.below hA2,hdq3.below hA2⟩
    have HS2:Hid (SR w w2 w.heap.size (w.heap.size+1+1) (w.heap.size+1) rest2∧RD w2 w.heap.size (w.heap.size+1) x zs.length cx N p2∧Below w.heap.size w w2):=⟨hsr2,hrd2,HT.out.1.2.2.1.trans (hon2.below (by omega) (fun k hk=>by omega))⟩
    have HU2:Hid (uqE N (uq N V rest2 p2 [] 0 ((ss++[(⟨la,lc,ls,sn,sd⟩:Sq)]).map Sq.ct))=uqF N V ts):=by
     unfold Hid
     rw [←HT.out.2.1,hu2 (ss.map Sq.ct),List.map_append]
     rfl
    have HSM:Hid (Sml (ss++[⟨la,lc,ls,sn,sd⟩])):=HT.out.2.2.1.snoc ⟨hnd2.1,hnd2.2.1,hnd2.2.2.1,hnd2.2.2.2,by simp only;omega⟩
    have HSB:Hid (∀ z ∈ rest2,z ∈ ts):=fun z hz=>HT.out.2.2.2.2.2 z (hsub2 z hz)
    have HLN:Hid (rest2.length<rest.length∧p2≤N):=⟨hlen2.2,hp2⟩
    have hss3:ss.length≤300:=by omega
    have hln2:=hlen2.2
    clear hsr2 hrd2 hp2 hov2 hon2 hlen2 hnd2 hsub2 hu2 hA2 hoq2 hdq2 hdq3 HT
    go_wp2_with (at_builtin;(refine wpList_append_sq rfl (.tmp 30) (.tmp 32) rfl (w.heap.size+3) (.slice oa ss.length oc) ss rfl HO2.out.1 (w2.heap.size+1) 1 ⟨la,lc,ls,sn,sd⟩ rfl (by intro j u hj;have h9:=newsQ (w2.alloc (Obj.cells #[.slice la ls.length lc,.int .i64 sn,.int .i64 sd] 209)) la ls.length lc sn sd 209 ⟨la,lc,ls,sn,sd⟩ rfl rfl rfl rfl rfl j u hj;simpa using h9) (by omega) (by simp;omega) ?_);intro v4 w4 hown hgrow)
    have hA3:Below w2.heap.size w2 ((w2.alloc (Obj.cells #[.slice la ls.length lc,.int .i64 sn,.int .i64 sd] 209)).alloc (Obj.cells #[.slice la ls.length lc,.int .i64 sn,.int .i64 sd] 209)):=((Below.refl _ _).alloc nl _).alloc (by simp) _
    have hon4:Only (fun k=>w.heap.size+3≤k) w2 w4:=(Only.ofBelow (S:=fun k=>w.heap.size+3≤k) hA3 nl).grown hgrow (fun k hk=>.inl (HO2.out.1.blk hk).1)
    have HF4:Hid ((SR w w4 w.heap.size (w.heap.size+1+1) (w.heap.size+1) rest2∧RD w4 w.heap.size (w.heap.size+1) x zs.length cx N p2∧Below w.heap.size w w4∧w.heap.size+3≤w4.heap.size)∧OVq w4 (w.heap.size+3) v4 (ss++[⟨la,lc,ls,sn,sd⟩])∧DeepQ w4 (w.heap.size+3) (ss++[⟨la,lc,ls,sn,sd⟩])):=
     ⟨⟨HS2.out.1.only hon4 (by omega),HS2.out.2.1.only hon4 (by omega),HS2.out.2.2.trans (hon4.below (by omega) (fun k hk=>by omega)),by have:=hon4.size;omega⟩,hown,HO2.out.2.grown HO2.out.1 hgrow⟩
    obtain ⟨o4,c4,rfl⟩:=hown.form
    clear hown hgrow hA3 hon4 HO2 HS2
    go_roundw
    case rel=>exact ⟨rest2,p2,_,o4,c4,rfl,HF4.out.1,⟨HLN.out.2,by rw [List.length_append];simp;omega,HSB.out⟩,HU2.out,HSM.out,HF4.out.2.1,HF4.out.2.2⟩
    case measure=>rw [HF4.out.1.1.lenAt,HLA.out.1];exact HLN.out.1
   ·have HN:Hid (uqF N V ts=none):=by
     unfold Hid
     rw [←HT.out.2.1]
     exact hbad _
    have HB2:Hid (Below w.heap.size w w2):=HT.out.1.2.2.1.trans (hon2.below (by have:=HT.out.1.2.2.2;omega) (fun k hk=>by omega))
    clear HT HLA hbad hon2
    go_wp2
    exact bodyPost_ret (v:=.tuple #[.slice none 0 0,.iface T y]) (by simp [results,Tryz.results201,go_sem]) rfl (soR.no (by first | exact HB2.out | exact HB2.out.alloc (by have:=HB2.out.size;omega) _) HN.out)
end Go.Proofs.YtaibkchbkedjnaaGreatDoor
