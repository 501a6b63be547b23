import Derived.Test.YtjmcjbmjgpponaaGreatDoorVarsC
set_option maxRecDepth 20000
set_option maxHeartbeats 16000000
namespace Go.Proofs.YtjmcjbmjgpponaaGreatDoor
open Go.RowKit
set_option linter.unusedVariables false
set_option linter.unusedSimpArgs false
theorem zmk :z0g (List.replicate 3 dp)=true:=by decide
structure FmS (w W:World) (X Y Z:Nat) (va:Option Addr) (vc:Nat) (ps:List (Int × Int)) (E O:Int) (a2:Option Addr) (c2:Nat) (es:List El) (qa:Option Addr) (qc:Nat) (qs:List (Int × Int)):Prop where
 bel:Below w.heap.size w W
 cx:W.cell? ⟨X,0,none⟩=some (.slice va ps.length vc)
 lx:X<W.heap.size
 by':Box3 W Y (.int .i64 E) (.int .i64 O) (.slice a2 es.length c2)
 cz:W.cell? ⟨Z,0,none⟩=some (.slice qa qs.length qc)
 lz:Z<W.heap.size
 pp:Pls W va ps
 ee:ItI W a2 es
 qq:Pls W qa qs
theorem FmS.step {w W W':World} {X Y Z:Nat} {va:Option Addr} {vc:Nat} {ps:List (Int × Int)} {E O:Int} {a2:Option Addr} {c2:Nat} {es:List El} {qa:Option Addr} {qc:Nat} {qs:List (Int × Int)} (h:FmS w W X Y Z va vc ps E O a2 c2 es qa qc qs) (hb:Below W.heap.size W W'):FmS w W' X Y Z va vc ps E O a2 c2 es qa qc qs:=
 ⟨h.bel.trans (hb.mono h.bel.size),keep hb h.lx h.cx,Nat.lt_of_lt_of_le h.lx hb.size,h.by'.step hb,keep hb h.lz h.cz,Nat.lt_of_lt_of_le h.lz hb.size,h.pp.below hb nl,h.ee.below hb nl,h.qq.below hb nl⟩
structure FmN (f:List Int->Option (List Int)) (ps:List (Int × Int)) (s E O:Int) (es:List El) (qs:List (Int × Int)):Prop where
 okq:z0g qs=true
 len:qs.length=ps.length
 no:∀ i:Nat,i<ps.length->(∀ j,j<es.length->(es.getD j de).n≠(i:Int))->gtP qs i=gtP ps i/\gtB qs i=gtB ps i
 yes:∀ i k:Nat,i<ps.length->k<es.length->(es.getD k de).n=(i:Int)->(0<(es.getD k de).ls.length->gtB qs i=true/\gtP qs i=(s,(k:Int)))/\((es.getD k de).ls.length=0->gtB qs i=false)
 live:(lvL qs s).length<=es.length
theorem fmN {f:List Int->Option (List Int)} {ps:List (Int × Int)} {s E O:Int} {es:List El} (h:AyT f ps s E O es):FmN f ps s E O es (mvL s es ps es.length):=by
 have hr:∀ k,k<es.length->0<=(es.getD k de).n:=fun k hk=>(h.pack.ap k hk).1.1.1
 have hap:∀ j k,j<k->k<es.length->(es.getD j de).n≠(es.getD k de).n:=fun j k hj hk=>(h.pack.ap k hk).2 j hj
 have hf:∀ i,i<ps.length->(ps.getD i dp).1≠s:=fun i hi e=>by
  have hl:=h.liv;have hn:nwh (ps.getD i dp)=false:=by
   unfold nwh;have hlo:=h.lo;rw [e];have:(s == 0)=false:=by simp;omega
   rw [this]
   rfl
  have hm:=(zan ps ps.length s (i:Int)).2 ⟨i,hi,rfl,hn,e⟩;rw [List.eq_nil_of_length_eq_zero hl] at hm
  cases hm
 have hok:=zlg h.map ⟨h.lo,by have:=h.hi;omega⟩ hf es h.pack.n
 have hlen:=z4d s es ps es.length;have hpl:∀ i:Nat,i<ps.length->z0h (mvL s es ps es.length) (i:Int)=(mvL s es ps es.length).getD i dp/\z0h ps (i:Int)=ps.getD i dp:=fun i hi=>by
  unfold z0h;rw [if_pos (by rw [hlen];omega),if_pos (by omega),Int.toNat_natCast]
  exact ⟨rfl,rfl⟩
 refine ⟨hok,hlen,fun i hi hno=>?_,fun i k hi hk hki=>?_,?_⟩
 ·obtain ⟨h1,-⟩:=z9r (s:=s) (l:=ps) hr hap i hi es.length nl
  obtain ⟨e1,e2⟩:=hpl i hi;unfold gtP gtB;rw [hok,h.map,e1,e2,h1 hno];exact ⟨rfl,rfl⟩
 ·obtain ⟨-,h2⟩:=z9r (s:=s) (l:=ps) hr hap i hi es.length nl
  obtain ⟨e1,-⟩:=hpl i hi;have hg:=h2 k hk hki;unfold gtP gtB;rw [hok,e1,hg];refine ⟨fun hL=>?_,fun hL=>?_⟩
  ·rw [if_pos hL]
   refine ⟨?_,rfl⟩;have hlo:=h.lo;have:(s == 0)=false:=by simp;omega
   simp [nwh,this]
  ·rw [if_neg (by omega)]
   simp [nwh,dp]
 ·unfold lvL
  rw [if_pos hok,hlen];have:=zfo s s es ps es.length;rw [h.liv] at this
  omega
theorem zbx (a:Option Addr) (cap:Nat) (bs:List Int) (w:World) (hb:Byt w a bs) (hm:bs.length<=maxLen) (hS:SentB w) :
  Calls Tryz.prog 5 #[.slice a bs.length cap] w fun e w'=>e=.returned (.bool true)/\Below w.heap.size w w':=by
 obtain ⟨f,hf⟩:=zoe;have HF0:Hid (z2w f/\∀ W,Below w.heap.size w W->SentB W):=⟨hf,fun W hW=>hS.below hW⟩
 have HDR:=z8l a bs cap w hb hm;clear hS hf hb
 go_enter Tryz.func5,Tryz.ntmps5
 go_wp2_with fail
 refine HDR.mono ?_;clear HDR;rintro e w1 ⟨va,vc,ps,s,E,O,a2,c2,es,rfl,hpl,hs,hE,hO,hpp,hpd,hb1⟩;have hbA:Below w1.heap.size w1 ((w1.alloc (Obj.cells #[.slice va ps.length vc] 46)).alloc (Obj.cells #[.int .i64 E,.int .i64 O,.slice a2 es.length c2] 25)):=((Below.refl _ _).alloc nl _).alloc (by simp) _
 have HS2:Hid (Below w.heap.size w ((w1.alloc (Obj.cells #[.slice va ps.length vc] 46)).alloc (Obj.cells #[.int .i64 E,.int .i64 O,.slice a2 es.length c2] 25))/\((w1.alloc (Obj.cells #[.slice va ps.length vc] 46)).alloc (Obj.cells #[.int .i64 E,.int .i64 O,.slice a2 es.length c2] 25)).cell? ⟨w1.heap.size,0,none⟩=some (.slice va ps.length vc)/\w1.heap.size<((w1.alloc (Obj.cells #[.slice va ps.length vc] 46)).alloc (Obj.cells #[.int .i64 E,.int .i64 O,.slice a2 es.length c2] 25)).heap.size/\Box3 ((w1.alloc (Obj.cells #[.slice va ps.length vc] 46)).alloc (Obj.cells #[.int .i64 E,.int .i64 O,.slice a2 es.length c2] 25)) (w1.heap.size+1) (.int .i64 E) (.int .i64 O) (.slice a2 es.length c2)/\Pls ((w1.alloc (Obj.cells #[.slice va ps.length vc] 46)).alloc (Obj.cells #[.int .i64 E,.int .i64 O,.slice a2 es.length c2] 25)) va ps/\ItI ((w1.alloc (Obj.cells #[.slice va ps.length vc] 46)).alloc (Obj.cells #[.int .i64 E,.int .i64 O,.slice a2 es.length c2] 25)) a2 es/\z29 es):=by
  refine ⟨hb1.trans (hbA.mono hb1.size),zb _ (by simp) (by simp),by simp;omega,?_,hpp.below hbA nl,hpd.its.below hbA nl,hpd.few⟩
  have h:=Box3.new (w1.alloc (Obj.cells #[.slice va ps.length vc] 46)) (.int .i64 E) (.int .i64 O) (.slice a2 es.length c2) 25
  simpa using h
 have HMA:=z7p f HF0.out.1 va vc ps s E O a2 c2 es _ HS2.out.2.2.2.2.1 (by omega) HS2.out.2.2.2.2.2.1 HS2.out.2.2.2.2.2.2 (by omega) (HF0.out.2 _ HS2.out.1)
 clear hbA hpp hpd hb1;go_wp2_with fail
 generalize (w1.alloc (Obj.cells #[.slice va ps.length vc] 46)).alloc (Obj.cells #[.int .i64 E,.int .i64 O,.slice a2 es.length c2] 25)=w2 at *;generalize w1.heap.size=X at *;refine HMA.mono ?_;clear HMA;rintro e w3 ⟨⟨qs,R,qa,qc,hay,rfl,hmq⟩,hb3⟩;have hbB:Below w3.heap.size w3 (w3.alloc (Obj.cells #[.slice qa qs.length qc] 46)):=bAw;have HS3:Hid (FmS w (w3.alloc (Obj.cells #[.slice qa qs.length qc] 46)) X (X+1) w3.heap.size va vc ps E O a2 c2 es qa qc qs/\z29 es):=by
  obtain ⟨h1,h2,h3,h4,h5,h6,h7⟩:=HS2.out;have hs:=hb3.size;exact ⟨⟨(h1.trans (hb3.mono h1.size)).trans (hbB.mono (by have:=h1.size;omega)),zb _ (by omega) (keep hb3 h3 h2),by simp;omega,(h4.step hb3).step hbB,by simp,by simp,(h5.below hb3 nl).below hbB nl,(h6.below hb3 nl).below hbB nl,hmq.pls.below hbB nl⟩,h7⟩
 clear hmq hb3 hbB HS2;have HNW:=zaa 3 (w3.alloc (Obj.cells #[.slice qa qs.length qc] 46));rw [show nwN 3=3 from rfl,show nwB 3=true from rfl] at HNW
 go_wp2_with fail
 generalize w3.alloc (Obj.cells #[.slice qa qs.length qc] 46)=w4 at *;generalize w3.heap.size=Z at *;refine HNW.mono ?_;clear HNW;rintro e w5 ⟨⟨na,nc,rfl,hmn⟩,hb5⟩;have hbC:Below w5.heap.size w5 (w5.alloc (Obj.cells #[.slice na 3 nc] 46)):=bAw;have HS5:Hid (FmS w (w5.alloc (Obj.cells #[.slice na 3 nc] 46)) X (X+1) Z va vc ps E O a2 c2 es qa qc qs):=(HS3.out.1.step hb5).step hbC;have HOK:Calls Tryz.prog 22 #[.agg #[.slice na 3 nc]] (w5.alloc (Obj.cells #[.slice na 3 nc] 46)) fun e w'=>e=.returned (.bool true)/\Below (w5.alloc (Obj.cells #[.slice na 3 nc] 46)).heap.size (w5.alloc (Obj.cells #[.slice na 3 nc] 46)) w':=by
  have h:=z5n na nc (List.replicate 3 dp) _ (hmn.pls.below hbC nl) (by simp)
  rw [zmk] at h;exact h
 have HFJ:Hid (z29 es):=HS3.out.2;clear hmn hb5 hbC HS3;go_wp2_with fail
 generalize w5.alloc (Obj.cells #[.slice na 3 nc] 46)=w6 at *;refine HOK.mono ?_;clear HOK;rintro e w7 ⟨rfl,hb7⟩;have HS7:Hid (FmS w w7 X (X+1) Z va vc ps E O a2 c2 es qa qc qs):=HS5.out.step hb7;clear hb7 HS5;rcases hay with ⟨hat,hqs,rfl⟩ | ⟨-,rfl,rfl⟩
 rotate_left
 ·obtain ⟨-,-,-,-,cz,-,-,-,-⟩:=HS7.out
  have HB:Hid (Below w.heap.size w w7):=HS7.out.bel;clear HS7;go_wp2;go_ret;exact ⟨rfl,HB.out⟩
 have HN:Hid (FmN f ps s E O es qs/\PkR f E O es):=⟨by rw [hqs];exact fmN hat,hat.pack⟩
 have hsr:-9223372036854775808<=s/\s<=9223372036854775807:=by omega
 have hq20:qs.length<=20:=by rw [HN.out.1.len];exact hpl
 clear hat hqs;generalize hnl:ps.length=n at *;have HNL:Hid (ps.length=n):=hnl;clear hnl;obtain ⟨-,cx,-,-,-,-,-,-,-⟩:=HS7.out;go_wp2;clear cx
 go_loopw [10] (fun iv wr=>∃ i:Nat,i<=n/\iv=.int .i64 i/\FmS w wr X (X+1) Z va vc ps E O a2 c2 es qa qc qs) (fun iv _=>n-(intOf iv).toNat)
 case atStart=>exact ⟨0,Nat.zero_le _,rfl,HS7.out⟩
 case round=>
  clear HS7;obtain ⟨i,hi,rfl,hfs⟩:=hrel;have HS:Hid (FmS w wr X (X+1) Z va vc ps E O a2 c2 es qa qc qs):=hfs;obtain ⟨-,cx,-,cy,cz,-,-,-,-⟩:=hfs;rw [HNL.out] at cx;obtain ⟨y0,y1,y2,-,-,-,ylt⟩:=cy
  by_cases hlt:i<n
  ·have hG:=z4l qa qc qs (i:Int) wr HS.out.qq (by omega)
   generalize hg1:gtP qs (i:Int)=g at *;generalize hg2:gtB qs (i:Int)=gb at *;have HG:Hid (gtP qs (i:Int)=g/\gtB qs (i:Int)=gb):=⟨hg1,hg2⟩;clear hg1 hg2;obtain ⟨gx,gy⟩:=g;go_wp2_with fail
   refine hG.mono ?_;clear hG y0 y1 y2 ylt cz cx;rintro e u1 ⟨rfl,hu1⟩;have hbD:Below u1.heap.size u1 (u1.alloc (Obj.cells #[.int .i64 gx,.int .i64 gy] 54)):=bAw;have HS1:Hid (FmS w (u1.alloc (Obj.cells #[.int .i64 gx,.int .i64 gy] 54)) X (X+1) Z va vc ps E O a2 c2 es qa qc qs/\Box2 (u1.alloc (Obj.cells #[.int .i64 gx,.int .i64 gy] 54)) u1.heap.size (.int .i64 gx) (.int .i64 gy)):=⟨(HS.out.step hu1).step hbD,Box2.new u1 _ _ _⟩
   have HPF:=z8c f HF0.out.1 E O (i:Int) a2 c2 es _ HS1.out.1.ee HFJ.out;obtain ⟨y0,y1,y2,-,-,-,ylt⟩:=(HS.out.step hu1).by'
   have hyn:¬X+1=u1.heap.size:=by omega
   clear hu1 hbD HS;go_wp2_with fail
   generalize u1.alloc (Obj.cells #[.int .i64 gx,.int .i64 gy] 54)=u2 at *;generalize u1.heap.size=Y1 at *;refine HPF.mono ?_;clear HPF y0 y1 y2 ylt hyn;rintro e u3 ⟨⟨t,rfl,ht⟩,hu3⟩;have HS3:Hid (FmS w u3 X (X+1) Z va vc ps E O a2 c2 es qa qc qs/\Box2 u3 Y1 (.int .i64 gx) (.int .i64 gy)):=⟨HS1.out.1.step hu3,HS1.out.2.keep hu3 HS1.out.2.lt⟩;clear hu3 HS1;have hfd:z4a es (i:Int) t:=by
    rcases ht with ⟨-,h⟩ | ⟨h,-⟩
    ·exact h
    ·exact absurd HN.out.2 h
   clear ht;rcases hfd with ⟨k,hk,rfl,hki,-⟩ | ⟨rfl,hno⟩
   ·-- the pack has the address
    obtain ⟨b,off,rfl,hbl,hp0,hp1,-,-⟩:=HS3.out.1.ee.els.pen k hk;have hyes:=HN.out.1.yes i k (by rw [HNL.out];exact hlt) hk hki
    obtain ⟨y0,y1,y2,-,-,-,ylt⟩:=HS3.out.1.by'
    obtain ⟨q0,q1,-,-,qlt⟩:=HS3.out.2;have hkt:¬(k:Int)<0:=by omega
    have hkl:(k:Int)<(es.length:Int):=by omega
    generalize (es.getD k de).ls.length=L at *;generalize (es.getD k de).a=ea at *;generalize (es.getD k de).c=ec at *;have HB3:Hid (FmS w u3 X (X+1) Z va vc ps E O (some ⟨b,off,none⟩) c2 es qa qc qs):=HS3.out.1;clear HS3 hki hp0
    by_cases hL:0<L
    ·obtain ⟨h1,h2⟩:=hyes.1 hL
     rw [HG.out.2] at h1;rw [HG.out.1] at h2;subst h1;obtain ⟨rfl,rfl⟩:gx=s/\gy=(k:Int):=by simpa using h2
     have hLI:(0:Int)<(L:Int):=by omega
     clear hyes h2;go_wp2;go_roundw
     case rel=>exact ⟨i+1,by omega,by go_num,HB3.out⟩
     case measure=>simp [intOf];omega
    ·obtain rfl:L=0:=by omega
     have h1:=hyes.2 rfl;rw [HG.out.2] at h1;subst h1;clear hyes;go_wp2;go_roundw
     case rel=>exact ⟨i+1,by omega,by go_num,HB3.out⟩
     case measure=>simp [intOf];omega
   ·-- the pack has it not
    obtain ⟨h1,h2⟩:=HN.out.1.no i (by rw [HNL.out];exact hlt) hno
    rw [HG.out.1] at h1;rw [HG.out.2] at h2;have hG:=z4l va vc ps (i:Int) u3 HS3.out.1.pp (by rw [HNL.out];omega)
    rw [<-h1,<-h2,HNL.out] at hG;clear h1 h2 hno;obtain ⟨-,cx,-,-,-,-,-,-,-⟩:=HS3.out.1;rw [HNL.out] at cx;go_wp2_with fail
    refine hG.mono ?_;clear hG cx;rintro e u4 ⟨rfl,hu4⟩;have hbE:Below u4.heap.size u4 (u4.alloc (Obj.cells #[.int .i64 gx,.int .i64 gy] 54)):=bAw;obtain ⟨q0,q1,-,-,qlt⟩:=HS3.out.2.keep hu4 HS3.out.2.lt;have hqn:¬Y1=u4.heap.size:=by omega
    have HS5:Hid (FmS w (u4.alloc (Obj.cells #[.int .i64 gx,.int .i64 gy] 54)) X (X+1) Z va vc ps E O a2 c2 es qa qc qs):=(HS3.out.1.step hu4).step hbE;clear hu4 hbE HS3;go_wp2;go_roundw
    case rel=>exact ⟨i+1,by omega,by go_num,HS5.out⟩
    case measure=>simp [intOf];omega
  ·have HMO:=z5n qa qc qs (wr.drewN 1) (HS.out.qq.below (Below.refl _ _).drew nl) (by omega)
   rw [HN.out.1.okq] at HMO;have HLV:Hid (∀ W,Pls W qa qs->Calls Tryz.prog 25 #[.agg #[.slice qa qs.length qc],.int .i64 s] W fun e w'=>(∃ a c,e=.returned (.slice a (lvL qs s).length c)/\MinI w' W.heap.size w'.heap.size a c (lvL qs s))/\Below W.heap.size W w'):=fun W h=>z8y qa qc qs s W h (by omega) hsr
   have hlv:=HN.out.1.live;have HSD:Hid (FmS w wr.drew X (X+1) Z va vc ps E O a2 c2 es qa qc qs):=HS.out.step (Below.refl _ _).drew;clear HS y0 y1 y2 ylt cz;generalize (lvL qs s).length=m at *;have hmI:(m:Int)<=(es.length:Int):=by omega
   go_wp2
   clear cx;refine zj (S:=fun W=>W.cell? ⟨Z,0,none⟩=some (.slice qa qs.length qc)/\W.cell? ⟨X+1,2,none⟩=some (.slice a2 es.length c2)) 12 (by kernel_rfl) (by kernel_rfl) (by exact ⟨HSD.out.cz,HSD.out.by'.c2⟩) (fun hHeld=>?_)
   refine tk 0 ?_
   try simp only [tkS]
   refine wpAnyH_ready (rs:=[1]) (by kernel_rfl) (by simp) ?_
   refine AllReadyH.cons rfl (fun K hK=>?_) AllReadyH.nil
   go_simp
   refine HMO.mono ?_;clear HMO;rintro e u1 ⟨rfl,hu1⟩;have HS1:Hid (FmS w u1 X (X+1) Z va vc ps E O a2 c2 es qa qc qs):=HSD.out.step hu1;clear hu1 HSD
   dsimp only
   refine hK.out _ _ (by exact ⟨HS1.out.cz,HS1.out.by'.c2⟩) (fun hHeld=>?_)
   clear hK K
   try simp only [tkS]
   refine tk 2 ?_
   try simp only [tkS]
   refine tk 3 ?_
   try simp only [tkS]
   refine tk 4 ?_
   try simp only [tkS]
   refine tk 7 ?_
   try simp only [tkS]
   refine tk 8 ?_
   try simp only [tkS]
   refine tk 9 ?_
   try simp only [tkS]
   refine wpAnyH_ready (rs:=[5]) (by kernel_rfl) (by simp) ?_
   refine AllReadyH.cons rfl (fun K hK=>?_) AllReadyH.nil
   go_simp
   have HC:=HLV.out u1 HS1.out.qq;refine HC.mono ?_;clear HC HLV;rintro e u2 ⟨⟨la,lc,rfl,-⟩,hu2⟩;have HS2:Hid (FmS w u2 X (X+1) Z va vc ps E O a2 c2 es qa qc qs):=HS1.out.step hu2;clear hu2 HS1
   dsimp only
   refine hK.out _ _ (by exact ⟨HS2.out.cz,HS2.out.by'.c2⟩) (fun hHeld=>?_)
   clear hK K
   try simp only [tkS]
   refine tk 6 ?_
   try simp only [tkS]
   refine tk 10 ?_
   try simp only [tkS]
   refine tk 11 ?_
   try simp only [tkS]
   refine wpAnyH_done (by kernel_rfl) ?_ _
   simp only [z0d,List.drop_succ_cons,List.drop_zero]
   have HB:Hid (Below w.heap.size w u2):=HS2.out.bel;clear HS2;go_wp2;go_ret;exact ⟨rfl,HB.out⟩
end Go.Proofs.YtjmcjbmjgpponaaGreatDoor
