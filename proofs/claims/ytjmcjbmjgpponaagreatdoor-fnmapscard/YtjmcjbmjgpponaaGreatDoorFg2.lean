import Derived.Test.YtjmcjbmjgpponaaGreatDoorUs1
import Derived.Test.YtjmcjbmjgpponaaGreatDoorILens2
set_option maxRecDepth 20000
set_option maxHeartbeats 16000000
namespace Go.Proofs.YtjmcjbmjgpponaaGreatDoor
open Go.RowKit
set_option linter.unusedVariables false
set_option linter.unusedSimpArgs false
def gqY (n V p s:Nat) (res:List Int) (q:Nat):Prop:=gq n V s s p []=some (res,q)/\res.length=s/\zv res=true
def gqR (w w':World) (n V p s:Nat) (e:Ending):Prop:=Below w.heap.size w w' /\
   (∀ res q,gqY n V p s res q->∃ a' cp,e=.returned (.tuple #[.slice a' res.length cp,.int .i64 (q:Nat),.bool true])/\MinI w' w.heap.size w'.heap.size a' cp res) /\
   ((¬∃ res q,gqY n V p s res q)->∃ v y,e=.returned (.tuple #[v,.int .i64 y,.bool false]))
theorem gqR.none {w w':World} {n V p s:Nat} (hb:Below w.heap.size w w') (h:gq n V s s p []=none):gqR w w' n V p s (.returned (.tuple #[.slice none 0 0,.int .i64 (-1),.bool false])):=
 And.intro hb (And.intro (fun res q hy=>by have:=hy.1;rw [h] at this;cases this) (fun _=>⟨_,_,rfl⟩))
theorem zbz (a:Option Addr) (cap:Nat) (zs:List Int) (n V p s:Nat) (w:World) (hb:Byt w a zs) (hz:zs=enc n V) (hn:n<=4096) (hp:p<=n) (hs1:1<=s) (hs:s<=80) :
  Calls Tryz.prog 126 #[.agg #[.slice a zs.length cap,.int .i64 n],.int .i64 p,.int .i64 s] w fun e w'=>gqR w w' n V p s e:=by
 obtain ⟨i0,hi,hz0,hz1,hz2⟩:=info_parts Tryz.infoI64;have HZ:Hid (zs=enc n V):=hz;have HBW:Hid (Bw w (w.alloc (Obj.cells #[.slice a zs.length cap,.int .i64 n] 106))):=bAw;have q0:(w.alloc (Obj.cells #[.slice a zs.length cap,.int .i64 n] 106)).cell? ⟨w.heap.size,0,none⟩=some (.slice a zs.length cap):=by simp
 have q1:(w.alloc (Obj.cells #[.slice a zs.length cap,.int .i64 n] 106)).cell? ⟨w.heap.size,1,none⟩=some (.int .i64 n):=by simp
 have Q:Hid _:=(⟨q0,q1⟩:_/\_);have HSZ:Hid (w.heap.size+1<=(w.alloc (Obj.cells #[.slice a zs.length cap,.int .i64 n] 106)).heap.size):=by simp [Hid]
 clear hz q0 q1
 go_enter Tryz.func126,Tryz.ntmps126
 go_wp2
 generalize w.alloc (Obj.cells #[.slice a zs.length cap,.int .i64 n] 106)=W0 at *
 go_loopw [1,9] (fun t o wr=>∃ (q k f:Nat) (out:List Int) (au:Option Addr) (cu:Nat),t=.int .i64 q/\o=.slice au k cu/\(out.length=k/\k<=s+7/\q<=n)/\(s<=f+k/\gq n V s f q out=gq n V s s p [])/\OVI wr (w.heap.size+1) (.slice au k cu) out/\Below (w.heap.size+1) W0 wr) (fun _ o _=>s-z8a o)
 case atStart=>exact ⟨p,0,s,[],none,0,rfl,rfl,⟨rfl,by omega,hp⟩,⟨by omega,rfl⟩,OVI.nil _ _,Below.refl _ _⟩
 case round=>
  obtain ⟨q,k,f,out,au,cu,rfl,rfl,⟨hkl,hk7,hq⟩,hgq,hov,hbel⟩:=hrel;have HF:Hid (out.length=k/\s<=f+k/\gq n V s f q out=gq n V s s p []):=⟨hkl,hgq⟩;have HB:Hid (Below (w.heap.size+1) W0 wr/\Bw w wr):=⟨hbel,HBW.out.trans (hbel.mono (by omega))⟩
  have HOV:Hid (OVI wr (w.heap.size+1) (.slice au k cu) out):=hov;have hsz:w.heap.size+1<=wr.heap.size:=Nat.le_trans HSZ.out hbel.size;have b0:=keep hbel (by omega) Q.out.1
  have b1:=keep hbel (by omega) Q.out.2
  clear hkl hgq hov hbel
  by_cases hlt:k<s
  ·have hlt2:(k:Int)<(s:Int):=by omega
   obtain ⟨f,rfl⟩:∃ g,f=g+1:=⟨f-1,by have:=HF.out.2.1;omega⟩
   by_cases c1:q+4<=n
   ·have c1':¬((n:Int)-4<(q:Int)):=by omega
    go_wp2_with fail
    refine (z0f a cap zs n q 4 n V _ (hb.below HB.out.2 nl) HZ.out (by omega) (by omega) (by omega) (by omega) (by omega)).mono ?_
    rintro e w2 ⟨rfl,hb2⟩;have hxe:V / 2 ^ ((q:Nat):Int).toNat % 2 ^ (4:Int).toNat=bt V q 4:=by unfold bt;simp
    rw [hxe];have hx16:=z07 V q 4;have HOV2:Hid (OVI w2 (w.heap.size+1) (.slice au k cu) out):=HOV.out.below hb2;have HB2:Hid (Below (w.heap.size+1) W0 w2):=HB.out.1.trans (hb2.mono (by omega))
    have hz3:w.heap.size+1<=w2.heap.size:=Nat.le_trans hsz hb2.size;have hu:w2.ownsRow (w.heap.size+1) 3 1 (.slice au k cu) k (out.map (Value.int .i64)):=by have:=HOV2.out.1;rw [HF.out.1] at this;exact this
    have HXB:Hid (∃ x,x=bt V q 4):=⟨_,rfl⟩;obtain ⟨x,hxx⟩:=HXB.out;rw [<-hxx] at hx16 ⊢;have HXE:Hid (x=bt V q 4):=hxx;clear hxx hxe hb2 HXB HOV b0 b1;have HK8:Hid (k<=87):=by unfold Hid;omega
    by_cases hx0:x=0
    ·have hx1:¬(0:Int)<(x:Int):=by omega
     have HX0:Hid (x=0/\bt V q 4=0):=⟨hx0,by rw [<-HXE.out];exact hx0⟩
     clear hx0
     by_cases c2:q+7<=n
     ·have c2':¬((n:Int)-3<(q:Int)+4):=by omega
      go_wp2_with (at_builtin;(refine wpList_append_lies _ rfl (.tmp 26) (.tmp 28) 57 rfl (w.heap.size+1) 3 i0 (.int .i64 0) 1 8 Tryz.underlying57 hi hz0 hz1 hz2 rfl (by decide) (.slice au k cu) k (out.map (Value.int .i64)) rfl (hu.alloc _) ⟨w2.heap.size,0,none⟩ 1 1 [.int .i64 (x:Nat)] rfl rfl (by intro j y hj;match j,hj with | 0,hj=>(simp at hj;subst hj;simp [Addr.add])) (by intro y hy;simp at hy;subst hy;rfl) (by omega) (by have:=HK8.out;unfold maxLen;omega) (by have:=HK8.out;omega) (by simp;omega) _ rfl ?_);intro g cap1 w4 hown hgrow hat hlt1;have HB4:Hid (Below (w.heap.size+1) W0 w4):=z26 HB2.out hz3 HOV2.out hgrow;have b0:=keep HB4.out (by omega) Q.out.1;have b1:=keep HB4.out (by omega) Q.out.2)
      have HOV4:Hid (OVI w4 (w.heap.size+1) (.slice (some ⟨g,0,none⟩) (k+1) cap1) (out++[((x:Nat):Int)])):=OVI.app HF.out.1 HOV2.out.2 (by omega) hown
      have hz4:w.heap.size+1<=w4.heap.size:=Nat.le_trans HSZ.out HB4.out.size;clear hown hgrow hat hlt1 HOV2 HB2 hu hz3;refine (z0f a cap zs n ((q:Int)+4) 3 n V _ (hb.below (HBW.out.trans (HB4.out.mono (by omega))) nl) HZ.out (by omega) (by omega) (by omega) (by omega) (by omega)).mono ?_
      rintro e w5 ⟨rfl,hb5⟩;have hye:V / 2 ^ ((q:Int)+4).toNat % 2 ^ (3:Int).toNat=bt V (q+4) 3:=by
       unfold bt;rw [show ((q:Int)+4).toNat=q+4 by omega]
       rfl
      rw [hye];have hy8:=z07 V (q+4) 3;have HOV5:Hid (OVI w5 (w.heap.size+1) (.slice (some ⟨g,0,none⟩) (k+1) cap1) (out++[((x:Nat):Int)])):=HOV4.out.below hb5;have HB5:Hid (Below (w.heap.size+1) W0 w5):=HB4.out.trans (hb5.mono (by omega))
      have HG:Hid (gq n V s f (q+7) (out++[0]++List.replicate (bt V (q+4) 3) 0)=gq n V s s p []):=by rw [<-HF.out.2.2];exact (zom (by rw [HF.out.1];exact hlt) HX0.out.2 c2).symm
      have hz5:w.heap.size+1<=w5.heap.size:=Nat.le_trans HSZ.out HB5.out.size;have HL:Hid ((out++[((x:Nat):Int)]).length=k+1):=by rw [List.length_append,HF.out.1];rfl
      clear hye hb5 HB4 HOV4;generalize bt V (q+4) 3=y at *;go_wp2_with (at_builtin;(refine z31 rfl (.tmp 42) (.tmp 43) rfl (w.heap.size+1) (.slice (some ⟨g,0,none⟩) (k+1) cap1) (out++[((x:Nat):Int)]) rfl HOV5.out y rfl (by rw [HL.out];omega) (by rw [HL.out];omega) hz5 ?_);intro v6 w6 hown6 hgrow6)
      obtain ⟨a6,c6,rfl⟩:=hown6.form;have hl6:(out++[((x:Nat):Int)]++List.replicate y 0).length=k+1+y:=by rw [List.length_append,HL.out,List.length_replicate]
      rw [hl6] at hown6 ⊢;have HOV6:Hid (OVI w6 (w.heap.size+1) (.slice a6 (k+1+y) c6) (out++[0]++List.replicate y 0)):=by rw [HX0.out.1] at hown6;exact hown6
      have HB6:Hid (Below (w.heap.size+1) W0 w6):=zhk HB5.out hz5 HOV5.out hgrow6;have HL6:Hid ((out++[(0:Int)]++List.replicate y 0).length=k+1+y):=by rw [HX0.out.1] at hl6;exact hl6
      clear hl6 hown6 hgrow6 HOV5 HB5 HL;go_wp2;go_roundw
      case rel=>exact ⟨q+7,k+1+y,f,out++[0]++List.replicate y 0,a6,c6,by go_num,rfl,⟨HL6.out,by omega,by omega⟩,⟨by have:=HF.out.2.1;omega,HG.out⟩,HOV6.out,HB6.out⟩
      case measure=>simp [z8a];omega
     ·have c2':(n:Int)-3<(q:Int)+4:=by omega
      have HN:Hid (gq n V s s p []=none):=by rw [<-HF.out.2.2];exact zr3 (by rw [HF.out.1];exact hlt) c1 HX0.out.2 c2
      go_wp2_with (at_builtin;(refine wpList_append_lies _ rfl (.tmp 26) (.tmp 28) 57 rfl (w.heap.size+1) 3 i0 (.int .i64 0) 1 8 Tryz.underlying57 hi hz0 hz1 hz2 rfl (by decide) (.slice au k cu) k (out.map (Value.int .i64)) rfl (hu.alloc _) ⟨w2.heap.size,0,none⟩ 1 1 [.int .i64 (x:Nat)] rfl rfl (by intro j y hj;match j,hj with | 0,hj=>(simp at hj;subst hj;simp [Addr.add])) (by intro y hy;simp at hy;subst hy;rfl) (by omega) (by have:=HK8.out;unfold maxLen;omega) (by have:=HK8.out;omega) (by simp;omega) _ rfl ?_);intro g cap1 w4 hown hgrow hat hlt1;have HB4:Hid (Below (w.heap.size+1) W0 w4):=z26 HB2.out hz3 HOV2.out hgrow;have b0:=keep HB4.out (by omega) Q.out.1;have b1:=keep HB4.out (by omega) Q.out.2)
      have HOV4:Hid (OVI w4 (w.heap.size+1) (.slice (some ⟨g,0,none⟩) (k+1) cap1) (out++[((x:Nat):Int)])):=OVI.app HF.out.1 HOV2.out.2 (by omega) hown
      have hz4:w.heap.size+1<=w4.heap.size:=Nat.le_trans HSZ.out HB4.out.size;clear hown hgrow hat hlt1 HOV2 HB2 hu hz3;have HBB:Hid (Bw w w4):=HBW.out.trans (HB4.out.mono (by omega))
      exact bodyPost_ret (v:=.tuple #[.slice none 0 0,.int .i64 (-1),.bool false]) (by simp [results,Tryz.results126,go_sem]) rfl (gqR.none HBB.out HN.out)
    ·have hx1:(0:Int)<(x:Int):=by omega
     go_wp2_with (at_builtin;(refine wpList_append_lies _ rfl (.tmp 26) (.tmp 28) 57 rfl (w.heap.size+1) 3 i0 (.int .i64 0) 1 8 Tryz.underlying57 hi hz0 hz1 hz2 rfl (by decide) (.slice au k cu) k (out.map (Value.int .i64)) rfl (hu.alloc _) ⟨w2.heap.size,0,none⟩ 1 1 [.int .i64 (x:Nat)] rfl rfl (by intro j y hj;match j,hj with | 0,hj=>(simp at hj;subst hj;simp [Addr.add])) (by intro y hy;simp at hy;subst hy;rfl) (by omega) (by have:=HK8.out;unfold maxLen;omega) (by have:=HK8.out;omega) (by simp;omega) _ rfl ?_);intro g cap1 w4 hown hgrow hat hlt1;have HB4:Hid (Below (w.heap.size+1) W0 w4):=z26 HB2.out hz3 HOV2.out hgrow;have b0:=keep HB4.out (by omega) Q.out.1;have b1:=keep HB4.out (by omega) Q.out.2)
     have HOV4:Hid (OVI w4 (w.heap.size+1) (.slice (some ⟨g,0,none⟩) (k+1) cap1) (out++[((x:Nat):Int)])):=OVI.app HF.out.1 HOV2.out.2 (by omega) hown
     have hz4:w.heap.size+1<=w4.heap.size:=Nat.le_trans HSZ.out HB4.out.size;clear hown hgrow hat hlt1 HOV2 HB2 hu hz3;have HG:Hid (gq n V s f (q+4) (out++[((x:Nat):Int)])=gq n V s s p []):=by rw [<-HF.out.2.2,HXE.out];exact (zqd (by rw [HF.out.1];exact hlt) c1 (by rw [<-HXE.out];exact hx0)).symm
     go_roundw
     case rel=>exact ⟨q+4,k+1,f,out++[((x:Nat):Int)],some ⟨g,0,none⟩,cap1,by go_num,rfl,⟨by rw [List.length_append,HF.out.1];rfl,by omega,by omega⟩,⟨by have:=HF.out.2.1;omega,HG.out⟩,HOV4.out,HB4.out⟩
     case measure=>simp [z8a];omega
   ·have c1':(n:Int)-4<(q:Int):=by omega
    have HN:Hid (gq n V s s p []=none):=by rw [<-HF.out.2.2];exact zr5 (by rw [HF.out.1];exact hlt) c1
    go_wp2
    exact bodyPost_ret (v:=.tuple #[.slice none 0 0,.int .i64 (-1),.bool false]) (by simp [results,Tryz.results126,go_sem]) rfl (gqR.none HB.out.2 HN.out)
  ·have hlt2:¬(k:Int)<(s:Int):=by omega
   have HG:Hid (gq n V s s p []=some (out,q)):=by rw [<-HF.out.2.2];exact zpy (by rw [HF.out.1];exact hlt)
   clear b0 b1
   by_cases hks:k=s
   ·subst hks
    have HC:=zcv au cu out wr HOV.out.ins (by rw [HF.out.1];omega)
    rw [HF.out.1] at HC;go_wp2_with fail
    refine HC.mono ?_;clear HC;rintro e w9 ⟨rfl,hw9⟩;rw [hw9];clear hw9;obtain ⟨a',c',e',hm⟩:=HOV.out.mine;have HM:Hid (MinI wr w.heap.size wr.heap.size au cu out):=by
     obtain ⟨rfl,-,rfl⟩:au=a'/\k=out.length/\cu=c':=by simpa using e'
     exact hm.mono (by omega) nl
    clear e' hm;have HR:Hid (∀ b,zv out=b->gqR w wr n V p k (.returned (.tuple #[.slice au k cu,.int .i64 (q:Nat),.bool b]))):=by
     intro b hbb
     refine ⟨HB.out.2,fun res q' hy=>?_,fun hno=>?_⟩
     ·obtain ⟨rfl,rfl⟩:out=res/\q=q':=by have:=hy.1;rw [HG.out] at this;simpa using this
      refine ⟨au,cu,?_,HM.out⟩;rw [HF.out.1,<-hbb,hy.2.2]
     ·cases b with
      | false=>exact ⟨_,_,rfl⟩
      | true=>exact absurd ⟨out,q,HG.out,HF.out.1,hbb⟩ hno
    generalize hbb:zv out=b at *;have HRR:=HR.out b rfl;clear HR HG HM HOV HF;go_wp2;exact bodyPost_ret (v:=.tuple #[.slice au k cu,.int .i64 (q:Nat),.bool b]) (by simp [results,Tryz.results126,go_sem]) rfl HRR
   ·have hks2:((k:Int) == (s:Int))=false:=by rw [beq_eq_false_iff_ne];omega
    have HRR:gqR w wr n V p s (.returned (.tuple #[.slice au k cu,.int .i64 (q:Nat),.bool false])):=by
     refine ⟨HB.out.2,fun res q' hy=>?_,fun hno=>⟨_,_,rfl⟩⟩
     obtain ⟨rfl,rfl⟩:out=res/\q=q':=by have:=hy.1;rw [HG.out] at this;simpa using this
     exact absurd (HF.out.1.symm.trans hy.2.1) hks
    clear HG HOV HF;go_wp2;exact bodyPost_ret (v:=.tuple #[.slice au k cu,.int .i64 (q:Nat),.bool false]) (by simp [results,Tryz.results126,go_sem]) rfl HRR
theorem zei (a:Option Addr) (cap:Nat) (zs:List Int) (R B n0 V0:Nat) (w0 w:World) (hb:Ins w0 a zs) (hB:w0.heap.size=B) (hbel:Below B w0 w) (hw:SI w B R n0 V0) (hn0:n0<=2000) (hn:zs.length<=80) (hok:∀ z ∈ zs,0<=z/\z<=12) :
  Calls Tryz.prog 94 #[.pointer (some ⟨R,0,none⟩),.slice a zs.length cap] w fun e w'=>e=.returned (.tuple #[])/\SI w' B R (lpG zs n0 V0).1 (lpG zs n0 V0).2/\Below B w0 w':=by
 have HOK:Hid (∀ k,k<zs.length->0<=zs.getD k 0/\zs.getD k 0<=12):=fun k hk=>hok _ (zp hk)
 have HRL:Hid _:=fun i hi=>zdc zs i hi
 have HRI:Hid _:=zi2 zs;have HRO:Hid _:=za9 zs;have HLE:Hid _:=z9d zs;have HLZ:Hid _:=z73 zs;have HLP:Hid _:=z8t zs;have HW:Hid (SI w B R n0 V0):=hw;have HF:Hid (lp zs zs.length 0 n0 V0=lpG zs n0 V0):=rfl;clear hok hw;generalize hlen:zs.length=n at *;have HL:Hid (zs.length=n):=hlen;clear hlen
 go_enter Tryz.func94,Tryz.ntmps94
 go_wp2
 go_loopw [4] (fun i wr=>∃ k N V f:Nat,k<=n/\i=.int .i64 k/\N<=n0+7*k/\n-k<=f/\lp zs f k N V=lpG zs n0 V0/\SI wr B R N V/\Below B w0 wr) (fun i _=>n-(intOf i).toNat)
 case atStart=>exact ⟨0,n0,V0,n,Nat.zero_le _,rfl,by omega,by omega,HF.out,HW.out,hbel⟩
 case round=>
  clear HW hbel HF;obtain ⟨k,N,V,f,hk,rfl,hN,hf,hlp,hwi,hbel⟩:=hrel;have HWI:Hid (SI wr B R N V):=hwi;have HP:Hid (lp zs f k N V=lpG zs n0 V0):=hlp;clear hwi hlp
  by_cases hlt:k<n
  ·obtain ⟨b1,o1,rfl,hb1,hc1⟩:=(hb.below hbel (by omega)).len_pos k (by rw [HL.out];exact hlt)
   have hs1:=hc1 k (by rw [HL.out];exact hlt)
   have hx:=HOK.out k hlt;have hr:=HRL.out k hlt;obtain ⟨f,rfl⟩:∃ f',f=f'+1:=⟨f-1,by omega⟩
   have HZ:=HLZ.out f k N V hlt;have HQ:=HLP.out f k N V hlt;rw [HP.out] at HZ HQ;have HZ':Hid _:=HZ;have HQ':Hid _:=HQ;clear hc1 HZ HQ HP;generalize hxx:zs.getD k 0=x at *;go_wp2_with fail
   refine (HWI.out.put x 4 hx.1 (by omega) (by omega) (by simp;omega) (by omega)).mono ?_
   rintro e w2 ⟨rfl,hwi2,hb2⟩;have HWI2:Hid (SI w2 B R (N+4) (V+x.toNat*2 ^ N)):=hwi2;have hbel2:Below B w0 w2:=hbel.trans hb2;obtain ⟨b3,o3,he3,hb3,hc3⟩:=(hb.below hbel2 (by omega)).len_pos k (by rw [HL.out];exact hlt)
   obtain ⟨rfl,rfl⟩:b1=b3/\o1=o3:=by simpa using he3
   have hs3:=hc3 k (by rw [HL.out];exact hlt)
   have HC3:Hid _:=hc3;rw [hxx] at hs3;clear hwi2 hb2 hbel HWI hc3 he3 hs1
   by_cases hz:x=0
   ·have E:=HZ'.out hz
    have HE:Hid (lp zs f (k+1+run zs k) (N+7) (V+run zs k*2 ^ (N+4))=lpG zs n0 V0):=E.symm;have HRI':Hid _:=HRI.out k;have HRO':Hid _:=HRO.out k hlt;clear HZ' HQ' E;subst hz;have HWI3:Hid (SI w2 B R (N+4) V):=by simpa [Hid] using HWI2.out
    clear HWI2;generalize run zs k=r at *;go_wp2
    go_loopw [4,5] (fun i c wi=>∃ j q:Nat,j<=r/\q=k+j/\c=.int .i64 j/\i=.int .i64 q/\wi=w2) (fun _ c _=>r-(intOf c).toNat)
    case atStart=>exact ⟨0,k,Nat.zero_le _,by omega,rfl,rfl,rfl⟩
    case round=>
     obtain ⟨j,q,hj,hq,rfl,rfl,rfl⟩:=hrel;have HQJ:Hid (q=k+j):=hq;clear hq
     by_cases hjr:j<r
     ·obtain ⟨g1,g2,g3⟩:=HRI'.out j hjr
      rw [<-HQJ.out] at g2 g3;have hs4:=HC3.out (q+1) (by rw [HL.out];exact g2)
      rw [g3] at hs4;clear g3;go_wp2;go_roundw
      case rel=>exact ⟨j+1,q+1,by omega,by have:=HQJ.out;omega,by go_num,by go_num,by simp⟩
      case measure=>simp [intOf];omega
     ·have hje:j=r:=by omega
      subst hje;rw [<-HQJ.out] at HRO';have hqn:q+1<=n:=by have:=HQJ.out;omega
      by_cases h7:j<7
      ·by_cases hl1:q+1<n
       ·have hne:=HRO'.out h7 hl1
        have hs4:=HC3.out (q+1) (by rw [HL.out];exact hl1)
        generalize zs.getD (q+1) 0=y at *;have hy:(y == 0)=false:=by simpa using hne
        clear hne;go_wp2_with fail
        refine (HWI3.out.put (j:Nat) 3 (by omega) (by omega) (by omega) (by simp;omega) (by omega)).mono ?_
        rintro e w4 ⟨rfl,hwi4,hb4⟩;have HWI4:Hid (SI w4 B R (N+7) (V+j*2 ^ (N+4))):=by simpa [Hid] using hwi4
        have HB4:Hid (Below B w0 w4):=hbel2.trans hb4;clear hwi4 hb4 HWI3;go_wp2;go_roundw
        case rel=>exact ⟨k+1+j,N+7,V+j*2 ^ (N+4),f,by have:=HQJ.out;omega,by have:=HQJ.out;go_num,by omega,by omega,HE.out,HWI4.out,HB4.out⟩
        case measure=>have:=HQJ.out;simp [intOf];omega
       ·have hl2:decide ((q:Int)+1<(n:Int))=false:=by simp;omega
        go_wp2_with fail
        refine (HWI3.out.put (j:Nat) 3 (by omega) (by omega) (by omega) (by simp;omega) (by omega)).mono ?_
        rintro e w4 ⟨rfl,hwi4,hb4⟩;have HWI4:Hid (SI w4 B R (N+7) (V+j*2 ^ (N+4))):=by simpa [Hid] using hwi4
        have HB4:Hid (Below B w0 w4):=hbel2.trans hb4;clear hwi4 hb4 HWI3;go_wp2;go_roundw
        case rel=>exact ⟨k+1+j,N+7,V+j*2 ^ (N+4),f,by have:=HQJ.out;omega,by have:=HQJ.out;go_num,by omega,by omega,HE.out,HWI4.out,HB4.out⟩
        case measure=>have:=HQJ.out;simp [intOf];omega
      ·go_wp2_with fail
       refine (HWI3.out.put (j:Nat) 3 (by omega) (by omega) (by omega) (by simp;omega) (by omega)).mono ?_
       rintro e w4 ⟨rfl,hwi4,hb4⟩;have HWI4:Hid (SI w4 B R (N+7) (V+j*2 ^ (N+4))):=by simpa [Hid] using hwi4
       have HB4:Hid (Below B w0 w4):=hbel2.trans hb4;clear hwi4 hb4 HWI3;go_wp2;go_roundw
       case rel=>exact ⟨k+1+j,N+7,V+j*2 ^ (N+4),f,by have:=HQJ.out;omega,by have:=HQJ.out;go_num,by omega,by omega,HE.out,HWI4.out,HB4.out⟩
       case measure=>have:=HQJ.out;simp [intOf];omega
   ·have E:=HQ'.out hz
    have HE:Hid (lp zs f (k+1) (N+4) (V+x.toNat*2 ^ N)=lpG zs n0 V0):=E.symm;have hpos:0<x:=by omega
    have HB2:Hid (Below B w0 w2):=hbel2;clear HZ' HQ' E hbel2;go_wp2;go_roundw
    case rel=>exact ⟨k+1,N+4,V+x.toNat*2 ^ N,f,by omega,by go_num,by omega,by omega,HE.out,HWI2.out,HB2.out⟩
    case measure=>simp [intOf];omega
  ·have hkn:k=n:=by omega
   subst hkn;have E:=HLE.out f k N V (by omega)
   rw [HP.out] at E;have HA:Hid (SI wr B R (lpG zs n0 V0).1 (lpG zs n0 V0).2):=by rw [E];exact HWI.out
   clear E HWI HP;go_wp2
   go_end0
   exact ⟨rfl,HA.out,hbel⟩
theorem zbs (a:Option Addr) (cap:Nat) (zs:List Int) (R B:Nat) (w0 w:World) (hb:Ins w0 a zs) (hB:w0.heap.size=B) (hbel:Below B w0 w) (hw:SI w B R 0 0) (hn:zs.length<=80) (hok:∀ z ∈ zs,0<=z/\z<=12) :
  Calls Tryz.prog 94 #[.pointer (some ⟨R,0,none⟩),.slice a zs.length cap] w fun e w'=>e=.returned (.tuple #[])/\SI w' B R (lpF zs).1 (lpF zs).2/\Below B w0 w':=
 zei a cap zs R B 0 0 w0 w hb hB hbel hw (by omega) hn hok
theorem zhf (U V p M:Nat) (hU:U<2 ^ M) (h:∀ i,i<M->U / 2 ^ i % 2=V / 2 ^ (p+i) % 2):U=bt V p M:=by
 apply Nat.eq_of_testBit_eq
 intro i
 unfold bt;rw [Nat.testBit_mod_two_pow]
 by_cases hi:i<M
 ·have h1:=h i hi
  rw [decide_eq_true hi,Bool.true_and,Nat.testBit_eq_decide_div_mod_eq,Nat.testBit_eq_decide_div_mod_eq,Nat.div_div_eq_div_mul,<-Nat.pow_add,h1]
 ·rw [decide_eq_false hi,Bool.false_and]
  exact Nat.testBit_lt_two_pow (Nat.lt_of_lt_of_le hU (Nat.pow_le_pow_right (by omega) (by omega)))
theorem zil (V p M i:Nat) (hi:i<M):bt V p M / 2 ^ i % 2=V / 2 ^ (p+i) % 2:=by
 have h:(bt V p M).testBit i=(V / 2 ^ p).testBit i:=by unfold bt;rw [Nat.testBit_mod_two_pow,decide_eq_true hi,Bool.true_and]
 rw [Nat.testBit_eq_decide_div_mod_eq,Nat.testBit_eq_decide_div_mod_eq,Nat.div_div_eq_div_mul,<-Nat.pow_add] at h;have h1:bt V p M / 2 ^ i % 2<2:=Nat.mod_lt _ (by omega)
 have h2:V / 2 ^ (p+i) % 2<2:=Nat.mod_lt _ (by omega)
 by_cases c:bt V p M / 2 ^ i % 2=1
 ·by_cases d:V / 2 ^ (p+i) % 2=1
  ·omega
  ·simp [c,d] at h
 ·by_cases d:V / 2 ^ (p+i) % 2=1
  ·simp [c,d] at h
  ·omega
def lgR (w w':World) (n V p s:Nat) (e:Ending):Prop:=Below w.heap.size w w' /\
   (∀ res q,giY n V p s res q->∃ a' cp,e=.returned (.tuple #[.slice a' res.length cp,.int .i64 (q:Nat),.bool true])/\MinI w' w.heap.size w'.heap.size a' cp res) /\
   ((¬∃ res q,giY n V p s res q)->e=.returned (.tuple #[.slice none 0 0,.int .i64 (-1),.bool false]))
theorem lgR.no {w w':World} {n V p s:Nat} (hb:Below w.heap.size w w') (h:¬∃ res q,giY n V p s res q):lgR w w' n V p s (.returned (.tuple #[.slice none 0 0,.int .i64 (-1),.bool false])):=
 And.intro hb (And.intro (fun res q hy=>absurd ⟨res,q,hy⟩ h) (fun _=>rfl))
theorem lgR.yes {w w':World} {n V p s q:Nat} {res:List Int} {a':Option Addr} {cp:Nat} (hb:Below w.heap.size w w') (h:giY n V p s res q) (hm:MinI w' w.heap.size w'.heap.size a' cp res):lgR w w' n V p s (.returned (.tuple #[.slice a' res.length cp,.int .i64 (q:Nat),.bool true])):=by
 refine And.intro hb (And.intro (fun res' q' hy=>?_) (fun hno=>absurd ⟨res,q,h⟩ hno))
 obtain ⟨rfl,rfl⟩:res=res'/\q=q':=by have:=hy.1;rw [h.1] at this;simpa using this
 exact ⟨_,_,rfl,hm⟩
theorem z9u {n V p s q:Nat} {res:List Int}:giY n V p s res q↔gqY n V p s res q/\lpF res=(q-p,bt V p (q-p)):=by
 unfold giY gqY;rw [zpm]
 constructor
 ·rintro ⟨⟨h1,h2,h3⟩,h4⟩
  exact ⟨⟨h1,h2,h4⟩,h3⟩
 ·rintro ⟨⟨h1,h2,h4⟩,h3⟩
  exact ⟨⟨h1,h2,h3⟩,h4⟩
def Bx2 (W:World) (X Y:Nat) (a ya:Option Addr) (la ca ly cy n M:Nat):Prop:=W.cell? ⟨X,0,none⟩=some (.slice a la ca)/\W.cell? ⟨X,1,none⟩=some (.int .i64 (n:Nat))/\W.cell? ⟨Y,0,none⟩=some (.slice ya ly cy)/\W.cell? ⟨Y,1,none⟩=some (.int .i64 (M:Nat))
theorem Bx2.below {W W':World} {X Y:Nat} {a ya:Option Addr} {la ca ly cy n M:Nat} (h:Bx2 W X Y a ya la ca ly cy n M) (hb:Below W.heap.size W W'):Bx2 W' X Y a ya la ca ly cy n M:=
 ⟨keep hb (World.block_lt_of_cell? _ _ h.1) h.1,keep hb (World.block_lt_of_cell? _ _ h.2.1) h.2.1,keep hb (World.block_lt_of_cell? _ _ h.2.2.1) h.2.2.1,keep hb (World.block_lt_of_cell? _ _ h.2.2.2) h.2.2.2⟩
theorem za7 (a:Option Addr) (cap:Nat) (zs:List Int) (n p s:Nat) (w:World) (hb:Byt w a zs) (hO:okB (n:Int) zs=true) (hz:zs=enc n (val zs)) (hn:n<=4096) (hp:p<=n) (hs1:1<=s) (hs:s<=80) :
  Calls Tryz.prog 103 #[.agg #[.slice a zs.length cap,.int .i64 n],.int .i64 p,.int .i64 s] w fun e w'=>lgR w w' n (val zs) p s e:=by
 have hw:Bw w (w.alloc (Obj.cells #[.slice a zs.length cap,.int .i64 n] 106)):=bAw;have hl:zs.length<=281474976710656:=by rw [hz,z0a];omega
 have HO:Hid (okB (n:Int) zs=true):=hO;have HZ:Hid (zs=enc n (val zs)):=hz;clear hO hz;generalize hV:val zs=V at *;clear hV
 go_enter Tryz.func103,Tryz.ntmps103
 go_wp2_with fail
 refine (z35 a cap zs _ _ (hb.below hw nl) hl).mono ?_;rintro e w1 ⟨rfl,hb1⟩;rw [HO.out];have q0:w1.cell? ⟨w.heap.size,0,none⟩=some (.slice a zs.length cap):=keep hb1 (by simp) (by simp)
 have q1:w1.cell? ⟨w.heap.size,1,none⟩=some (.int .i64 n):=keep hb1 (by simp) (by simp)
 have hbb:=hw.trans (hb1.mono (by simp))
 clear hb1 hw;go_wp2_with fail
 refine (zbz a cap zs n V p s w1 (hb.below hbb nl) HZ.out hn hp hs1 hs).mono ?_;rintro e w2 ⟨hb2,hy,hno⟩;have HB2:Hid (Bw w w2):=hbb.trans (hb2.mono hbb.size);have hsz:=hbb.size;have p0:=keep hb2 (World.block_lt_of_cell? _ _ q0) q0;have p1:=keep hb2 (World.block_lt_of_cell? _ _ q1) q1;clear hb2 q0 q1
 by_cases hg:∃ res q,gqY n V p s res q
 ·obtain ⟨res,q,hr⟩:=hg
  obtain ⟨a',cp,rfl,hm⟩:=hy res q hr;have HY:Hid (gqY n V p s res q):=hr;have HA:Hid (MinI w2 w.heap.size w2.heap.size a' cp res):=hm.mono hsz nl;obtain ⟨hl1,hl2,hl3⟩:=zkv hr.2.2;have hpq:=(zd6 n V s s p [] res q hr.1).2;have HPU:=zbs a' cp res w2.heap.size w2.heap.size w2 _ HA.out.byt rfl ((Below.refl _ _).alloc nl (.cells #[.slice none 0 0,.int .i64 0] 106)) (SI.new w2 _ nl) hl2 hl3;have HMU:Hid (∃ M U,lpF res=(M,U)/\M<=560):=⟨_,_,rfl,by have:=znb res res.length 0 0 0;show (lp res res.length 0 0 0).1<=560;omega⟩
  obtain ⟨M,U,hMU,hM5⟩:=HMU.out;rw [hMU] at HPU;have HLP:Hid (lpF res=(M,U)):=hMU;have HUQ:Hid (∀ res' q',giY n V p s res' q'->res'=res/\q'=q/\M=q-p/\U=bt V p (q-p)):=by
   intro res' q' h
   obtain ⟨h1,h2⟩:=z9u.1 h;obtain ⟨rfl,rfl⟩:res=res'/\q=q':=by have:=h1.1;rw [HY.out.1] at this;simpa using this
   rw [HLP.out] at h2
   simp only [Prod.mk.injEq] at h2
   exact ⟨rfl,rfl,h2⟩
  have HYES:Hid (M=q-p->U=bt V p (q-p)->giY n V p s res q):=fun h1 h2=>z9u.2 ⟨HY.out,by rw [HLP.out,<-h2,h1]⟩
  clear hm hy hno hr hl3 hMU HMU;generalize hrl:res.length=rl at *;have HRL:Hid (res.length=rl):=hrl;clear hrl;go_wp2_with fail
  refine HPU.mono ?_;clear HPU;rintro e w4 ⟨rfl,⟨v,hR,hov,hU,hBR,-⟩,hb4⟩;obtain ⟨ya,yc,rfl,hmy⟩:=hov.mine;have HB4:Hid (Bw w w4):=HB2.out.trans (hb4.mono HB2.out.size);have HA4:Hid (MinI w4 w.heap.size w4.heap.size a' cp res):=(HA.out.below hb4).mono nl hb4.size;have HYB:Hid (Byt w4 ya (enc M U)/\U<2 ^ M):=⟨hmy.byt,hU⟩;have y0:=zd (j:=0) hR rfl;have y1:=zd (j:=1) hR rfl;have HBX:Hid (Bx2 w4 w.heap.size w2.heap.size a ya zs.length cap (enc M U).length yc n M):=⟨keep hb4 (World.block_lt_of_cell? _ _ p0) p0,keep hb4 (World.block_lt_of_cell? _ _ p1) p1,y0,y1⟩
  clear hov hmy hU hBR hb4 p0 p1 HA
  by_cases hMq:M=q-p
  ·have hMi:((M:Int) != (q:Int)-(p:Int))=false:=by simp;omega
   have HMQ:Hid (M=q-p/\True):=⟨hMq,trivial⟩;clear hMq;have HL7:Hid ((enc M U).length=(M+7) / 8/\zs.length=(n+7) / 8):=⟨z0a M U,by rw [HZ.out];exact z0a n V⟩
   have HQ:Hid (q<=n):=hpq.2 hp;have hx1:=HBX.out.2.1;have hy1:=HBX.out.2.2.2;clear y0 y1;go_wp2
   go_loopw [13] (fun iv wr=>∃ k:Nat,k<=M/\iv=.int .i64 k/\(∀ j,j<k->U / 2 ^ j % 2=V / 2 ^ (p+j) % 2)/\Below w4.heap.size w4 wr) (fun iv _=>M-(intOf iv).toNat)
   case atStart=>exact ⟨0,Nat.zero_le _,rfl,fun j hj=>by omega,Below.refl _ _⟩
   case round=>
    clear hx1 hy1;obtain ⟨k,hk,rfl,hall,hbel⟩:=hrel;have HAL:Hid (∀ j,j<k->U / 2 ^ j % 2=V / 2 ^ (p+j) % 2):=hall;have HBR:Hid (Bw w4 wr):=hbel;have HBX2:Hid (Bx2 wr w.heap.size w2.heap.size a ya zs.length cap (enc M U).length yc n M):=HBX.out.below hbel;have hy1:=HBX2.out.2.2.2;clear hall hbel
    by_cases hlt:k<M
    ·have hlt2:(k:Int)<(M:Int):=by omega
     have HU:Hid (z3w (enc M U) (((k:Nat):Int)).toNat=U / 2 ^ k % 2):=by rw [Int.toNat_natCast];exact z2n M U k hlt
     have HV:Hid (z3w zs ((p:Int)+(k:Int)).toNat=V / 2 ^ (p+k) % 2):=by
      have:=z2n n V (p+k) (by have:=HQ.out;have:=HMQ.out.1;omega)
      rw [<-HZ.out] at this;rw [show ((p:Int)+(k:Int)).toNat=p+k from by omega]
      exact this
     have HNE:Hid (¬U / 2 ^ k % 2=V / 2 ^ (p+k) % 2->¬∃ res q,giY n V p s res q):=by
      rintro h ⟨res',q',hh⟩;obtain ⟨-,-,h3,h4⟩:=HUQ.out res' q' hh;rw [<-h3] at h4
      apply h
      rw [h4];exact zil V p M k hlt
     have HAS:Hid (U / 2 ^ k % 2=V / 2 ^ (p+k) % 2->∀ j,j<k+1->U / 2 ^ j % 2=V / 2 ^ (p+j) % 2):=by
      intro h j hj
      by_cases he:j=k
      ·rw [he];exact h
      ·exact HAL.out j (by omega)
     have hu2:U / 2 ^ k % 2<2:=Nat.mod_lt _ (by omega)
     have hv2:V / 2 ^ (p+k) % 2<2:=Nat.mod_lt _ (by omega)
     have HBY:Hid (Byt wr ya (enc M U)/\Byt wr a zs):=⟨HYB.out.1.below HBR.out nl,(hb.below HB4.out nl).below HBR.out nl⟩;generalize U / 2 ^ k % 2=u at *;generalize V / 2 ^ (p+k) % 2=x at *;generalize enc M U=ys at *;have hkM:k<560:=by omega
     have hpn:p<=4096:=by omega
     have HWR:Hid (IntKind.i64.wrap ((p:Int)+(k:Int))=(p:Int)+(k:Int)/\True):=⟨by rw [IntKind.wrap_i64];omega,trivial⟩
     go_wp2_with fail
     go_region_held3 (fun W=>W.cell? ⟨w.heap.size,0,none⟩=some (.slice a zs.length cap)/\W.cell? ⟨w.heap.size,1,none⟩=some (.int .i64 (n:Nat))/\W.cell? ⟨w2.heap.size,0,none⟩=some (.slice ya ys.length yc)/\W.cell? ⟨w2.heap.size,1,none⟩=some (.int .i64 (M:Nat)))
      (first | exact HBX2.out | exact HBX7.out | exact HBX8.out)
      (first
       | (go_at_call_of 123 (Value.agg #[.slice ya ys.length yc,.int .i64 (M:Nat)]);refine (z21 ya yc ys (M:Nat) (k:Nat) _ (by exact HBY.out.1) (by omega) (by have:=HL7.out.1;omega) (by omega)).mono ?_;rintro e w7 ⟨rfl,hb7⟩;have HB7:Hid (Below wr.heap.size wr w7):=(by first | exact hb7 | exact Below.drewS hb7);have HBX7:Hid (Bx2 w7 w.heap.size w2.heap.size a ya zs.length cap ys.length yc n M):=HBX2.out.below HB7.out;rw [HU.out];clear hb7)
       | (go_at_call_of 123 (Value.agg #[.slice a zs.length cap,.int .i64 (n:Nat)]);rw [HWR.out.1];refine (z21 a cap zs (n:Nat) ((p:Int)+(k:Int)) _ (by exact HBY.out.2.below HB7.out nl) (by omega) (by have:=HL7.out.2;have:=HQ.out;have:=HMQ.out.1;omega) (by omega)).mono ?_;rintro e w8 ⟨rfl,hb8⟩;have HB8:Hid (Below wr.heap.size wr w8):=(by first | exact HB7.out.trans (hb8.mono HB7.out.size) | exact HB7.out.trans ((Below.drewS hb8).mono HB7.out.size));have HBX8:Hid (Bx2 w8 w.heap.size w2.heap.size a ya zs.length cap ys.length yc n M):=HBX2.out.below HB8.out;rw [HV.out];clear hb8))
     have HBF:Hid (Bw w w8):=HB4.out.trans ((HBR.out.trans (HB8.out.mono HBR.out.size)).mono HB4.out.size);have HBG:Hid (Bw w4 w8):=HBR.out.trans (HB8.out.mono HBR.out.size);clear HBX7 HBX8 HBX2 HB7 HB8 hy1
     by_cases hux:u=x
     ·have HAN:=HAS.out hux
      have hux2:((u:Int) != (x:Int))=false:=by simp;omega
      have HAN2:Hid _:=HAN;clear HAN HAS HNE hux;go_wp2;go_roundw
      case rel=>exact ⟨k+1,by omega,by go_num,HAN2.out,HBG.out⟩
      case measure=>simp [intOf];omega
     ·have hux2:((u:Int) != (x:Int))=true:=by simp;omega
      have HN:Hid (¬∃ res q,giY n V p s res q):=HNE.out hux;clear HAS HNE hux;go_wp2;exact bodyPost_ret (v:=.tuple #[.slice none 0 0,.int .i64 (-1),.bool false]) (by simp [results,Tryz.results103,go_sem]) rfl (lgR.no HBF.out HN.out)
    ·have hkM:k=M:=by omega
     subst hkM;have hke:¬(k:Int)<(k:Int):=by omega
     have HYY:Hid (giY n V p s res q):=HYES.out HMQ.out.1 (by rw [<-HMQ.out.1];exact zhf U V p k HYB.out.2 HAL.out)
     have HBF:Hid (Bw w wr):=HB4.out.trans (HBR.out.mono HB4.out.size);have HMF:Hid (MinI wr w.heap.size wr.heap.size a' cp res):=(HA4.out.below HBR.out).mono nl HBR.out.size;go_wp2;refine bodyPost_ret (v:=.tuple #[.slice a' rl cp,.int .i64 (q:Nat),.bool true]) (by simp [results,Tryz.results103,go_sem]) rfl ?_
     rw [<-HRL.out];exact lgR.yes HBF.out HYY.out HMF.out
  ·have hMi:((M:Int) != (q:Int)-(p:Int))=true:=by simp;omega
   have HN:Hid (¬∃ res q,giY n V p s res q):=by
    rintro ⟨res',q',h⟩;exact hMq (HUQ.out res' q' h).2.2.1
   go_wp2
   exact bodyPost_ret (v:=.tuple #[.slice none 0 0,.int .i64 (-1),.bool false]) (by simp [results,Tryz.results103,go_sem]) rfl (lgR.no HB4.out HN.out)
 ·obtain ⟨v,y,rfl⟩:=hno hg
  have HN:Hid (¬∃ res q,giY n V p s res q):=by
   rintro ⟨res',q',h⟩;exact hg ⟨res',q',(z9u.1 h).1⟩
  clear hy hno hg;go_wp2;exact bodyPost_ret (v:=.tuple #[.slice none 0 0,.int .i64 (-1),.bool false]) (by simp [results,Tryz.results103,go_sem]) rfl (lgR.no HB2.out HN.out)
theorem zn1 (k:Nat) (h:k<=12):wrap64 (2 ^ k)=((2 ^ k:Nat):Int):=by
 have h2:2 ^ k<=2 ^ 12:=Nat.pow_le_pow_right (by omega) h
 have e:((2:Int) ^ k)=((2 ^ k:Nat):Int):=by simp
 rw [e];generalize 2 ^ k=P at *;exact IntWalk.wrap64_in _ (by omega)
theorem zc9 (a:Option Addr) (cap:Nat) (zs:List Int) (n V p s:Nat) (w:World) (hb:Byt w a zs) (hz:zs=enc n V) (hn:n<=4096) (hp:p<=n) (hs1:1<=s) (hs:s<=80) :
  Calls Tryz.prog 106 #[.agg #[.slice a zs.length cap,.int .i64 n],.int .i64 p,.int .i64 s] w fun e w'=>Below w.heap.size w w' /\
   (z11 n V p s->e=.returned (.tuple #[.slice (some ⟨w.heap.size+1,0,none⟩) s s,.int .i64 ((gL V p s).2:Nat),.bool true])/\OwI w' w.heap.size (w.heap.size+1) s (gXs V p s)) /\
   (¬z11 n V p s->∃ v y,e=.returned (.tuple #[v,.int .i64 y,.bool false])):=by
 obtain ⟨i0,hi,hz0,hz1,hz2⟩:=info_parts Tryz.infoI64;have HZ:Hid (zs=enc n V):=hz;have HXL:Hid _:=z22 V p s;have HBW:Hid (Bw w (w.alloc (Obj.cells #[.slice a zs.length cap,.int .i64 n] 106))):=bAw;have q0:(w.alloc (Obj.cells #[.slice a zs.length cap,.int .i64 n] 106)).cell? ⟨w.heap.size,0,none⟩=some (.slice a zs.length cap):=by simp
 have q1:(w.alloc (Obj.cells #[.slice a zs.length cap,.int .i64 n] 106)).cell? ⟨w.heap.size,1,none⟩=some (.int .i64 n):=by simp
 have Q:Hid _:=(⟨q0,q1⟩:_/\_);clear hz q0 q1
 go_enter Tryz.func106,Tryz.ntmps106
 go_wp2_with (at_make;refine wpList_make_full _ rfl _ _ 57 rfl w.heap.size 3 i0 (.int .i64 0) 1 Tryz.underlying57 hi hz0 hz1 .i64 .i64 _ _ s rfl rfl rfl rfl (by rw [hz2];omega) (by unfold maxLen;omega) (by simp) ?_;intro w1 hown hgrow)
 have h0:OwI w1 w.heap.size (w.heap.size+1) s (part (gXs V p s) 0):=by
  rw [z3r,z22];refine ⟨?_,by intro z hz;simp at hz;omega⟩
  rw [z0n] at hown
  simpa using hown
 have hb1:Below (w.heap.size+1) (w.alloc (Obj.cells #[.slice a zs.length cap,.int .i64 n] 106)) w1:=(Below.refl _ _).grown hgrow (by simp) (by intro k hk;cases hk)
 have H0:Hid (OwI w1 w.heap.size (w.heap.size+1) s (part (gXs V p s) 0)):=h0;have HB1:Hid (Below (w.heap.size+1) (w.alloc (Obj.cells #[.slice a zs.length cap,.int .i64 n] 106)) w1):=hb1;clear h0 hown hgrow hi hz0 hz1 hz2 hb1;generalize w.alloc (Obj.cells #[.slice a zs.length cap,.int .i64 n] 106)=W0 at *
 go_loopw [1,10,11] (fun t l i wr=>∃ k:Nat,k<=s/\i=.int .i64 k/\Below (w.heap.size+1) W0 wr /\
   ((z1w n V p k/\l=.int .i64 ((gL V p k).1:Nat)/\t=.int .i64 ((gL V p k).2:Nat)/\OwI wr w.heap.size (w.heap.size+1) s (part (gXs V p s) k)) \/
    (∃ L y:Int,L<0/\l=.int .i64 L/\t=.int .i64 y/\¬z11 n V p s))) (fun _ _ i _=>s-(intOf i).toNat)
 case atStart=>exact ⟨0,Nat.zero_le _,rfl,HB1.out,.inl ⟨fun j hj=>by omega,rfl,rfl,H0.out⟩⟩
 case round=>
  clear H0 HB1;obtain ⟨k,hk,rfl,hbel,⟨hgood,rfl,rfl,hown⟩ | ⟨L,y,hL,rfl,rfl,hno⟩⟩:=hrel
  ·have HGD:Hid (z1w n V p k):=hgood
   have HO:Hid (OwI wr w.heap.size (w.heap.size+1) s (part (gXs V p s) k)):=hown;have hq:=z4z hp hgood;have hbw:Bw w wr:=HBW.out.trans (hbel.mono (by omega))
   have HBB:Hid (Bw w wr):=hbw;have b0:=keep hbel (by omega) Q.out.1
   have b1:=keep hbel (by omega) Q.out.2
   clear hgood hown hbw;have hl:=z8u V p k
   by_cases c0:(gL V p k).1=0
   ·obtain ⟨r1,r2,r3,r4⟩:=zo6 hp HGD.out c0 s hk
    have HY:Hid (z11 n V p s):=⟨r1,r2⟩;have HR3:Hid ((gL V p s).2=(gL V p k).2):=r3;have hall:=HO.out;rw [zk1 (by rw [HXL.out];exact hk) (fun j h1 h2=>by rw [HXL.out] at h2;rw [z9l V p s j h2,r4 j h1 h2];rfl)] at hall
    have HA:Hid (OwI wr w.heap.size (w.heap.size+1) s (gXs V p s)):=hall;rw [c0];clear r1 r2 r3 r4 hall HO HGD c0 hl;generalize (gL V p k).2=q at *
    by_cases hlt:k<s
    ·go_wp2
     exact bodyPost_ret (v:=.tuple #[.slice (some ⟨w.heap.size+1,0,none⟩) s s,.int .i64 (q:Nat),.bool true]) (by simp [results,Tryz.results106,go_sem]) rfl ⟨HBB.out,fun _=>⟨by rw [HR3.out],HA.out⟩,fun h=>absurd HY.out h⟩
    ·go_wp2
     exact bodyPost_ret (v:=.tuple #[.slice (some ⟨w.heap.size+1,0,none⟩) s s,.int .i64 (q:Nat),.bool true]) (by simp [results,Tryz.results106,go_sem]) rfl ⟨HBB.out,fun _=>⟨by rw [HR3.out],HA.out⟩,fun h=>absurd HY.out h⟩
   ·by_cases hlt:k<s
    ·have hb7:=z5x _ hl
     have HXG:Hid ((gXs V p s).getD k 0=(gX V p k:Nat)):=z9l V p s k hlt;have HX:Hid (gX V p k=V / 2 ^ (gL V p k).2 % 2 ^ bl (gL V p k).1):=rfl;have hx:=zgh V p k;have HBS:Hid _:=zej (n:=n) (V:=V) (p:=p) hlt;have HBX:Hid _:=zb9 (n:=n) (V:=V) (p:=p) hlt;have HGS:Hid _:=@z6i n V p k;have HS1:Hid _:=z58 V p k;have HS2:Hid _:=z86 V p k;have HB8:Hid _:=zgc (gL V p k).1 (by omega)
     have HGE:Hid _:=fun j hj=>zgu (gL V p k).1 j (by omega) hj
     generalize (gL V p k).1=l at *;generalize (gL V p k).2=q at *;generalize gX V p k=x at *;generalize bl l=m at *;have hl0:(0:Int)<l:=by omega
     go_wp2
     go_loopw [12] (fun i wi=>∃ j:Nat,j<=m/\i=.int .i64 j/\wi=wr) (fun i _=>m-(intOf i).toNat)
     case atStart=>exact ⟨0,Nat.zero_le _,rfl,rfl⟩
     case round=>
      obtain ⟨j,hj,rfl,rfl⟩:=hrel
      by_cases hjl:j<m
      ·have hp2:wrap64 (2 ^ j)<=(l:Int):=by rw [zn1 j (by omega)];have:=HGE.out j hjl;omega
       go_wp2
       go_roundw
       case rel=>exact ⟨j+1,by omega,by go_num,by simp⟩
       case measure=>simp [intOf];omega
      ·have hjm:j=m:=by omega
       subst hjm;have hp1:(l:Int)<wrap64 (2 ^ j):=by rw [zn1 _ (by omega)];have:=HB8.out;omega
       have hp2:decide (wrap64 (2 ^ j)<=(l:Int))=false:=by simpa using hp1
       clear hj hjl HGE HB8 hp1
       by_cases c1:q+j<=n
       ·go_wp2_with fail
        refine (z0f a cap zs n q j n V _ (hb.below HBB.out nl) HZ.out (by omega) (by omega) (by omega) (by omega) (by omega)).mono ?_
        rintro e w2 ⟨rfl,hb2⟩;have hxe:V / 2 ^ ((q:Nat):Int).toNat % 2 ^ ((j:Nat):Int).toNat=x:=by rw [HX.out];simp
        rw [hxe];have HO2:Hid (OwI w2 w.heap.size (w.heap.size+1) s (part (gXs V p s) k)):=HO.out.below hb2 nl;have hlt1:=HO.out.lt.2;have hbel2:Below (w.heap.size+1) W0 w2:=hbel.trans (hb2.mono (by omega))
        have hpl:(part (gXs V p s) k).length=s:=by rw [z2m _ _ (by rw [HXL.out];omega)];exact HXL.out
        have hdst:=HO2.out.cell k (by omega)
        have hfz:=HO2.out.frozen k;have R2:=HO2.out.store k ((gXs V p s).getD k 0) (by rw [HXG.out];omega)
        rw [z3d _ _ (by rw [HXL.out];exact hlt),HXG.out] at R2
        have HR2:Hid (OwI (w2.setCell ⟨w.heap.size+1,k,none⟩ (.int .i64 (x:Nat))) w.heap.size (w.heap.size+1) s (part (gXs V p s) (k+1))):=R2;have HB2:Hid (Below (w.heap.size+1) W0 (w2.setCell ⟨w.heap.size+1,k,none⟩ (.int .i64 (x:Nat)))):=hbel2.setCell (p:=⟨w.heap.size+1,k,none⟩) nl (.int .i64 (x:Nat));clear R2 hpl HO2 hbel2 HX HXG hxe hbel b0 b1 HO hb2 hp2;generalize (part (gXs V p s) k).getD k 0=old at *
        by_cases c2:x<=l
        ·have HG2:Hid (z1w n V p (k+1)):=HGS.out HGD.out c1 c2
         have E1:Hid ((l:Int)-(x:Nat)=(((gL V p (k+1)).1:Nat):Int)):=by have:=HS1.out;unfold Hid;omega
         have E2:Hid ((q:Int)+(j:Nat)=(((gL V p (k+1)).2:Nat):Int)):=by have:=HS2.out;unfold Hid;omega
         clear HS1 HS2 HBS HBX HGS;go_wp2;go_roundw
         case rel=>exact ⟨k+1,by omega,by go_num,by simpa using HB2.out,.inl ⟨HG2.out,by rw [E1.out],by rw [E2.out],by simpa using HR2.out⟩⟩
         case measure=>simp [intOf];omega
        ·have HN:Hid (¬z11 n V p s):=fun h=>HBX.out c2 h.1
         clear HS1 HS2 HBS HBX HGS;go_wp2;go_roundw
         case rel=>exact ⟨k+1,by omega,by go_num,by simpa using HB2.out,.inr ⟨(l:Int)-x,(q:Int)+j,by omega,rfl,rfl,HN.out⟩⟩
         case measure=>simp [intOf];omega
       ·have HN:Hid (¬z11 n V p s):=fun h=>HBS.out c1 h.1
        clear HS1 HS2 HBS HBX HGS HX HXG HO;go_wp2;exact bodyPost_ret (v:=.tuple #[.slice none 0 0,.int .i64 (-1),.bool false]) (by simp [results,Tryz.results106,go_sem]) rfl ⟨HBB.out,fun h=>absurd h HN.out,fun _=>⟨_,_,rfl⟩⟩
    ·have hks:k=s:=by omega
     subst hks;have HN:Hid (¬z11 n V p k):=fun h=>c0 h.2
     generalize (gL V p k).1=l at *;generalize (gL V p k).2=q at *;have hne:((l:Int) == 0)=false:=by simp;omega
     clear HO HGD;go_wp2;exact bodyPost_ret (v:=.tuple #[.slice (some ⟨w.heap.size+1,0,none⟩) k k,.int .i64 (q:Nat),.bool false]) (by simp [results,Tryz.results106,go_sem]) rfl ⟨HBB.out,fun h=>absurd h HN.out,fun _=>⟨_,_,rfl⟩⟩
  ·have HN:Hid (¬z11 n V p s):=hno
   have HBB:Hid (Bw w wr):=HBW.out.trans (hbel.mono (by omega))
   have hne:(L == 0)=false:=by simp;omega
   clear hno hbel
   by_cases hlt:k<s
   ·go_wp2
    exact bodyPost_ret (v:=.tuple #[.slice (some ⟨w.heap.size+1,0,none⟩) s s,.int .i64 y,.bool false]) (by simp [results,Tryz.results106,go_sem]) rfl ⟨HBB.out,fun h=>absurd h HN.out,fun _=>⟨_,_,rfl⟩⟩
   ·go_wp2
    exact bodyPost_ret (v:=.tuple #[.slice (some ⟨w.heap.size+1,0,none⟩) s s,.int .i64 y,.bool false]) (by simp [results,Tryz.results106,go_sem]) rfl ⟨HBB.out,fun h=>absurd h HN.out,fun _=>⟨_,_,rfl⟩⟩
theorem OVI.onlyF {S:Nat->Prop} {w w':World} {B:Nat} {v:Value} {zs:List Int} (h:OVI w B v zs) (ho:Only S w w') (hs:∀ k,v.ownBlock=some k->¬S k):OVI w' B v zs:=by
 rcases h.1.2 with ⟨h1,h2⟩ | ⟨g,cap,cur,rfl,hg,hh,r⟩
 ·exact ⟨⟨h.1.1,.inl ⟨h1,h2⟩⟩,h.2⟩
 ·exact ⟨⟨h.1.1,.inr ⟨g,cap,cur,rfl,hg,(ho.block g (Array.getElem?_eq_some_iff.1 hh).1 (hs g rfl)).trans hh,r⟩⟩,h.2⟩
theorem OVI.weakF {w:World} {B B':Nat} {v:Value} {zs:List Int} (h:OVI w B v zs) (hB:B'<=B):OVI w B' v zs:=by
 rcases h.1.2 with ⟨h1,h2⟩ | ⟨g,cap,cur,rfl,hg,r⟩
 ·exact ⟨⟨h.1.1,.inl ⟨h1,h2⟩⟩,h.2⟩
 ·exact ⟨⟨h.1.1,.inr ⟨g,cap,cur,rfl,by omega,r⟩⟩,h.2⟩
theorem zbd {T:List Int} {v N n:Nat} (h:N<6):fgB T v N n=false:=by
 unfold fgB;rw [decide_eq_false_iff_not]
 omega
theorem zf8 (a:Option Addr) (ca:Nat) (ls:List Int) (x:Option Addr) (cx:Nat) (zs:List Int) (N v n:Nat) (T:List Int) (w:World) (ha:Ins w a ls) (hx:Byt w x zs) (hz:zs=enc N v) (hN:N<=4096) (hn:n<=300) (hnb:zk ls=true) (h6:N<6) (hTe:tb (pl (fl 0 ls) (plc 64)) ls 64=T) :
  Calls Tryz.prog 107 #[.slice a ls.length ca,.agg #[.slice x zs.length cx,.int .i64 N],.int .i64 n] w fun e w'=>
   e=.returned (.tuple #[.slice none 0 0,.bool false])/\Below w.heap.size w w':=by
 obtain ⟨i0,hi,hz0,hz1,hz2⟩:=info_parts Tryz.infoI64;have HGD:Hid (Gd T ls.length):=by unfold Hid;rw [<-hTe];exact z90 hnb
 have HTR:Hid (∀ z ∈ T,-9223372036854775808<=z/\z<=9223372036854775807):=by
  intro z hz
  rw [<-hTe] at hz;have:=zd4 hnb 64 nl z hz
  omega
 have hbd:=z0p hnb;have hw:Bw w (w.alloc (Obj.cells #[.slice x zs.length cx,.int .i64 N] 106)):=bAw;have r0:(w.alloc (Obj.cells #[.slice x zs.length cx,.int .i64 N] 106)).cell? ⟨w.heap.size,0,none⟩=some (.slice x zs.length cx):=by simp
 have r1:(w.alloc (Obj.cells #[.slice x zs.length cx,.int .i64 N] 106)).cell? ⟨w.heap.size,1,none⟩=some (.int .i64 N):=by simp
 have HSZ:Hid (w.heap.size<(w.alloc (Obj.cells #[.slice x zs.length cx,.int .i64 N] 106)).heap.size):=by simp [Hid]
 have HLT:=z42 a ca ls _ (ha.below hw nl) hnb;rw [hTe] at HLT;have HZ:Hid (zs=enc N v/\True):=⟨hz,trivial⟩;clear hz hTe hnb
 go_enter Tryz.func107,Tryz.ntmps107
 go_wp2_with fail
 generalize w.alloc (Obj.cells #[.slice x zs.length cx,.int .i64 N] 106)=W at *;refine HLT.mono ?_;clear HLT;rintro e w1 ⟨aT,cT,rfl,hcv,hb1⟩;have hinr:=hcv.inR HTR.out (HGD.out.len);have hbw1:Bw w w1:=hw.trans (hb1.mono (Nat.le_of_lt HSZ.out));have HBW:Hid (Bw w w1/\True):=⟨hbw1,trivial⟩;have HX:Hid (Byt w1 x zs):=hx.below hbw1 nl;have HTT:Hid (Ins w1 aT T):=hinr.byt;have c0:=keep hb1 HSZ.out r0;have c1:=keep hb1 HSZ.out r1
 have HR:Hid (w1.cell? ⟨w.heap.size,0,none⟩=some (.slice x zs.length cx)/\w1.cell? ⟨w.heap.size,1,none⟩=some (.int .i64 N)):=⟨c0,c1⟩;have HS1:Hid (w.heap.size<w1.heap.size):=by have:=HSZ.out;have:=hb1.size;unfold Hid;omega
 have HTL:Hid (T.length=192/\True):=⟨HGD.out.len,trivial⟩;clear hw r0 r1 HSZ hcv hinr hb1 hbw1 ha hx;have h6i:(N:Int)<6:=by omega
 go_wp2
 exact bodyPost_ret (v:=.tuple #[.slice none 0 0,.bool false]) (by simp [results,Tryz.results107,go_sem]) rfl ⟨rfl,HBW.out.1⟩
theorem zhu (a:Option Addr) (ca:Nat) (ls:List Int) (x:Option Addr) (cx:Nat) (zs:List Int) (E N v n:Nat) (T:List Int) (w:World) (ha:Ins w a ls) (hx:Byt w x zs) (hz:zs=enc N v) (hN:N<=4096) (hn:n<=300) (hnb:zk ls=true) (hNE:N=E+6) (hTe:tb (pl (fl 0 ls) (plc 64)) ls 64=T) :
  Calls Tryz.prog 107 #[.slice a ls.length ca,.agg #[.slice x zs.length cx,.int .i64 N],.int .i64 n] w fun e w'=>
   ∃ u,e=.returned (.tuple #[u,.bool (decide (sg T v E n=some (0,0)))])/\(sg T v E n=some (0,0)->OVI w' w.heap.size u (so T v E n))/\Below w.heap.size w w':=by
 have HNE:Hid (N=E+6/\True):=⟨hNE,trivial⟩;have h6N:(6:Int)<=(N:Int):=by omega
 clear hNE;obtain ⟨i0,hi,hz0,hz1,hz2⟩:=info_parts Tryz.infoI64;have HGD:Hid (Gd T ls.length):=by unfold Hid;rw [<-hTe];exact z90 hnb
 have HTR:Hid (∀ z ∈ T,-9223372036854775808<=z/\z<=9223372036854775807):=by
  intro z hz
  rw [<-hTe] at hz;have:=zd4 hnb 64 nl z hz
  omega
 have hbd:=z0p hnb;have hw:Below w.heap.size w (w.alloc (Obj.cells #[.slice x zs.length cx,.int .i64 N] 106)):=bAw;have r0:(w.alloc (Obj.cells #[.slice x zs.length cx,.int .i64 N] 106)).cell? ⟨w.heap.size,0,none⟩=some (.slice x zs.length cx):=by simp
 have r1:(w.alloc (Obj.cells #[.slice x zs.length cx,.int .i64 N] 106)).cell? ⟨w.heap.size,1,none⟩=some (.int .i64 N):=by simp
 have HSZ:Hid (w.heap.size<(w.alloc (Obj.cells #[.slice x zs.length cx,.int .i64 N] 106)).heap.size):=by simp [Hid]
 have HLT:=z42 a ca ls _ (ha.below hw nl) hnb;rw [hTe] at HLT;have HZ:Hid (zs=enc N v/\True):=⟨hz,trivial⟩;clear hz hTe hnb
 go_enter Tryz.func107,Tryz.ntmps107
 go_wp2_with fail
 generalize w.alloc (Obj.cells #[.slice x zs.length cx,.int .i64 N] 106)=W at *;refine HLT.mono ?_;clear HLT;rintro e w1 ⟨aT,cT,rfl,hcv,hb1⟩;have hinr:=hcv.inR HTR.out (HGD.out.len);have hbw1:Below w.heap.size w w1:=hw.trans (hb1.mono (Nat.le_of_lt HSZ.out));have HBW:Hid (Below w.heap.size w w1/\True):=⟨hbw1,trivial⟩;have HX:Hid (Byt w1 x zs):=hx.below hbw1 nl;have HTT:Hid (Ins w1 aT T):=hinr.byt;have c0:=keep hb1 HSZ.out r0
 have c1:=keep hb1 HSZ.out r1;have HR:Hid (w1.cell? ⟨w.heap.size,0,none⟩=some (.slice x zs.length cx)/\w1.cell? ⟨w.heap.size,1,none⟩=some (.int .i64 N)):=⟨c0,c1⟩;have HS1:Hid (w.heap.size<w1.heap.size):=by have:=HSZ.out;have:=hb1.size;unfold Hid;omega
 have HTL:Hid (T.length=192/\True):=⟨HGD.out.len,trivial⟩;clear hw r0 r1 HSZ hcv hinr hb1 hbw1 ha hx;go_wp2_with fail
 have HG1:=z0f x cx zs (N:Int) ((N:Int)-6) 6 N v w1 HX.out HZ.out.1 (by omega) (by omega) (by omega) (by omega) (by omega)
 rw [show ((N:Int)-6).toNat=E from by have:=HNE.out.1;omega] at HG1
 simp only [show ((6:Int)).toNat=6 from rfl,show 2 ^ 6=64 from rfl] at HG1
 refine HG1.mono ?_;clear HG1 c0 c1;rintro e w2 ⟨rfl,hb2⟩;have HBW2:Hid (Below w.heap.size w w2/\True):=⟨HBW.out.1.trans (hb2.mono (Nat.le_of_lt HS1.out)),trivial⟩;have HX2:Hid (Byt w2 x zs):=HX.out.below hb2 nl;have HT2:Hid (Ins w2 aT T):=HTT.out.below hb2 nl;have HR2:Hid (w2.cell? ⟨w.heap.size,0,none⟩=some (.slice x zs.length cx)/\w2.cell? ⟨w.heap.size,1,none⟩=some (.int .i64 N)):=⟨keep hb2 HS1.out HR.out.1,keep hb2 HS1.out HR.out.2⟩
 have HS2:Hid (w.heap.size<w2.heap.size):=by have:=HS1.out;have:=hb2.size;unfold Hid;omega
 clear hb2 HBW HX HTT HR HS1;generalize hB:w2.heap.size=B at *;have HB:Hid (w2.heap.size=B/\True):=⟨hB,trivial⟩;clear hB;go_wp2
 go_loopw [9,10,11,12] (fun t s o i wr=>∃ (k st en:Nat),k<=n/\i=.int .i64 k/\t=.int .i64 en/\s=.int .i64 st/\sg T v E k=some (st,en)/\OVI wr B o (so T v E k)/\Below B w2 wr) (fun _ _ _ i _=>n-(intOf i).toNat)
 case atStart=>exact ⟨0,v / 2 ^ E % 64,E,Nat.zero_le _,rfl,by rw [show (N:Int)-6=(E:Int) from by have:=HNE.out.1;omega],rfl,rfl,OVI.nil _ _,Below.refl _ _⟩
 case round=>
  obtain ⟨k,st,en,hk,rfl,rfl,rfl,hsg,hov,hbel⟩:=hrel;obtain ⟨au,cu,rfl⟩:=hov.form;have HQL:Hid ((so T v E k).length=k/\True):=⟨zdo _ _ _ _,trivial⟩;rw [HQL.out.1] at hov ⊢;have HOV:Hid (OVI wr B (.slice au k cu) (so T v E k)):=hov;have HSG:Hid (sg T v E k=some (st,en)/\True):=⟨hsg,trivial⟩;obtain ⟨hst,hen⟩:=zdy HGD.out v E k st en hsg;have henN:(en:Int)<=4096:=by have:=HNE.out.1;omega
  have henM:(en:Int)<=(N:Int):=by have:=HNE.out.1;omega
  have HBL:Hid (Below B w2 wr/\True):=⟨hbel,trivial⟩;have HBB:Hid (Below w.heap.size w wr/\True):=⟨HBW2.out.1.trans (hbel.mono (Nat.le_of_lt HS2.out)),trivial⟩;have HZW:Hid (B<=wr.heap.size):=by have:=hbel.size;have:=HB.out.1;unfold Hid;omega
  have HRW:Hid (wr.cell? ⟨w.heap.size,0,none⟩=some (.slice x zs.length cx)/\wr.cell? ⟨w.heap.size,1,none⟩=some (.int .i64 N)):=⟨keep hbel HS2.out HR2.out.1,keep hbel HS2.out HR2.out.2⟩;have hTw:Ins wr aT T:=HT2.out.below hbel (by rw [HB.out.1];exact Nat.le_refl _)
  clear hov hsg hbel
  by_cases hlt:k<n
  ·obtain ⟨sy,b,z,e1,e2,e3,hsy,hb6,hz64⟩:=HGD.out.cell st hst
   obtain ⟨gT,oT,rfl,hgT,hcT⟩:=hTw.len_pos (st*3) (by rw [HTL.out.1];omega)
   have t0:=hcT (st*3) (by rw [HTL.out.1];omega)
   have t1:=hcT (st*3+1) (by rw [HTL.out.1];omega)
   have t2:=hcT (st*3+2) (by rw [HTL.out.1];omega)
   rw [e1] at t0;rw [e2,<-Nat.add_assoc] at t1;rw [e3,<-Nat.add_assoc] at t2;have HCB:Hid (cB T st=b/\cZ T st=z/\T.getD (st*3) 0=(sy:Int)):=⟨by unfold cB;rw [e2,Int.toNat_natCast],by unfold cZ;rw [e3,Int.toNat_natCast],e1⟩
   have hpz:=Nat.pow_pos (n:=b) (show 0<2 by omega)
   have hz63:(z:Int)<=64:=by omega
   clear hcT e1 e2 e3 hTw hz64 hpz
   by_cases hbe:en<b
   ·have HNO:Hid (sg T v E n=none/\True):=⟨zfr (zfq HSG.out.1 (by rw [HCB.out.1];exact hbe)) n (by omega),trivial⟩
    have hbi:(en:Int)<(b:Int):=by omega
    have HWA:Hid (Below w.heap.size w (wr.alloc (Obj.cells #[.int .i64 sy,.int .i64 b,.int .i64 z] 171))/\True):=⟨HBB.out.1.alloc (by have:=HZW.out;have:=HS2.out;omega) _,trivial⟩
    clear HOV HSG;go_wp2;exact bodyPost_ret (v:=.tuple #[.slice none 0 0,.bool false]) (by simp [results,Tryz.results107,go_sem]) rfl ⟨_,by rw [HNO.out.1];rfl,fun h=>by rw [HNO.out.1] at h;simp at h,HWA.out.1⟩
   ·have hbi:(b:Int)<=(en:Int):=by omega
    have HSG2:Hid (sg T v E (k+1)=some (z+v / 2 ^ (en-b) % 2 ^ b,en-b)/\so T v E (k+1)=so T v E k++[(sy:Int)]):=by
     have h1:=zfj HSG.out.1 (show ¬en<cB T st by rw [HCB.out.1];exact hbe)
     have h2:=zfg HSG.out.1;rw [HCB.out.1,HCB.out.2.1] at h1;rw [HCB.out.2.2] at h2;exact ⟨h1,h2⟩
    have HVB:Hid (v / 2 ^ (en-b) % 2 ^ b<64):=by
     have h1:v / 2 ^ (en-b) % 2 ^ b<2 ^ b:=Nat.mod_lt _ (Nat.pow_pos (by omega))
     have h2:2 ^ b<=2 ^ 6:=Nat.pow_le_pow_right (by omega) hb6
     unfold Hid
     omega
    have hu:(wr.alloc (Obj.cells #[.int .i64 sy,.int .i64 b,.int .i64 z] 171)).ownsRow B 3 1 (.slice au k cu) k ((so T v E k).map (Value.int .i64)):=by have:=(HOV.out.1).alloc (Obj.cells #[.int .i64 sy,.int .i64 b,.int .i64 z] 171);rw [HQL.out.1] at this;exact this
    have HWA:Hid (Below B w2 (wr.alloc (Obj.cells #[.int .i64 sy,.int .i64 b,.int .i64 z] 171))/\True):=⟨HBL.out.1.alloc HZW.out _,trivial⟩;have HOA:Hid (OVI (wr.alloc (Obj.cells #[.int .i64 sy,.int .i64 b,.int .i64 z] 171)) B (.slice au k cu) (so T v E k)):=⟨by rw [HQL.out.1];exact hu,HOV.out.2⟩
    have HLB:Hid (∀ g,(Value.slice au k cu).ownBlock=some g->B<=g/\g<wr.heap.size):=fun g hg=>HOV.out.1.lt g hg
    have d0:(wr.alloc (Obj.cells #[.int .i64 sy,.int .i64 b,.int .i64 z] 171)).cell? ⟨wr.heap.size,0,none⟩=some (.int .i64 sy):=by simp
    have d1:(wr.alloc (Obj.cells #[.int .i64 sy,.int .i64 b,.int .i64 z] 171)).cell? ⟨wr.heap.size,1,none⟩=some (.int .i64 b):=by simp
    have d2:(wr.alloc (Obj.cells #[.int .i64 sy,.int .i64 b,.int .i64 z] 171)).cell? ⟨wr.heap.size,2,none⟩=some (.int .i64 z):=by simp
    have HD:Hid (_/\_/\_):=⟨d0,d1,d2⟩;have HSA:Hid ((wr.alloc (Obj.cells #[.int .i64 sy,.int .i64 b,.int .i64 z] 171)).heap.size=wr.heap.size+1/\True):=⟨by simp,trivial⟩
    have hsy80:(sy:Int)<=80:=by omega
    have HN3:Hid (k+1<=300):=by unfold Hid;omega
    clear HOV HSG;go_wp2_with (at_builtin;(refine wpList_append_lies _ rfl (.tmp 41) (.tmp 44) 57 rfl B 3 i0 (.int .i64 0) 1 8 Tryz.underlying57 hi hz0 hz1 hz2 rfl (by decide) (.slice au k cu) k ((so T v E k).map (Value.int .i64)) rfl (hu.alloc _) ⟨wr.heap.size+1,0,none⟩ 1 1 [.int .i64 sy] rfl rfl (by intro j y hj;match j,hj with | 0,hj=>(simp at hj;subst hj;simp [Addr.add])) (by intro y hy;simp at hy;subst hy;rfl) (by have:=HN3.out;omega) (by have:=HN3.out;unfold maxLen;omega) (by have:=HN3.out;omega) (by have:=HZW.out;simp;omega) _ rfl ?_);intro g cap1 w4 hown hgrow hat hlt1)
    have hOn:Only (fun j=>(Value.slice au k cu).ownBlock=some j) (wr.alloc (Obj.cells #[.int .i64 sy,.int .i64 b,.int .i64 z] 171)) w4:=Only.grown (Only.alloc (Only.refl _ _) _) hgrow (fun j hj=>.inl hj)
    have HC:Hid (w4.cell? ⟨wr.heap.size,2,none⟩=some (.int .i64 z)/\w4.cell? ⟨w.heap.size,0,none⟩=some (.slice x zs.length cx)/\w4.cell? ⟨w.heap.size,1,none⟩=some (.int .i64 N)/\w4.cell? ⟨wr.heap.size,1,none⟩=some (.int .i64 b)):=by
     have hw1:w.heap.size<wr.heap.size:=by have:=HZW.out;have:=HS2.out;omega
     have hs1:=HSA.out.1;refine ⟨hOn.cell (by omega) (fun hg=>by have:=HLB.out _ hg;omega) HD.out.2.2,hOn.cell (by omega) (fun hg=>by have:=HLB.out _ hg;have:=HS2.out;omega) (zb _ hw1 HRW.out.1),hOn.cell (by omega) (fun hg=>by have:=HLB.out _ hg;have:=HS2.out;omega) (zb _ hw1 HRW.out.2),hOn.cell (by omega) (fun hg=>by have:=HLB.out _ hg;omega) HD.out.2.1⟩
    have HOV4:Hid (OVI w4 B (.slice (some ⟨g,0,none⟩) (k+1) cap1) (so T v E (k+1))):=by
     unfold Hid;rw [HSG2.out.2];exact OVI.app HQL.out.1 HOA.out.2 (by omega) hown
    have HB4:Hid (Below B w2 w4/\True):=⟨z26 HWA.out.1 (by have:=HZW.out;have:=HSA.out.1;omega) HOA.out hgrow,trivial⟩
    have HXW:Hid (Byt w4 x zs):=HX2.out.below HB4.out.1 (by rw [HB.out.1];exact Nat.le_refl _)
    have HZ4:Hid (B<=w4.heap.size):=by have:=HB4.out.1.size;have:=HB.out.1;unfold Hid;omega
    have HLT4:Hid (wr.heap.size<w4.heap.size/\w.heap.size<w4.heap.size):=by have h1:=hOn.size;have h2:=HSA.out.1;have:=HZW.out;have:=HS2.out;exact ⟨by omega,by omega⟩
    clear hown hgrow hat hlt1 HOA HWA hu hOn d0 d1 d2 HD HSA HLB t0 t1 t2 HRW HBL HBB;generalize wr.heap.size=cb at *;obtain ⟨Xn,hXn⟩:∃ Xn,Xn=v / 2 ^ (en-b) % 2 ^ b:=⟨_,rfl⟩;rw [<-hXn] at HSG2 HVB;have HG2:∀ W,Byt W x zs->Calls Tryz.prog 102 #[.agg #[.slice x zs.length cx,.int .i64 (N:Int)],.int .i64 ((en:Int)-(b:Int)),.int .i64 (b:Int)] W fun e w'=>e=.returned (.int .i64 (Xn:Int))/\Below W.heap.size W w':=by
     intro W hW
     have:=z0f x cx zs (N:Int) ((en:Int)-(b:Int)) (b:Int) N v W hW HZ.out.1 (by omega) (by omega) (by omega) (by omega) (by omega)
     rw [show ((en:Int)-(b:Int)).toNat=en-b from by omega,Int.toNat_natCast,<-hXn] at this
     exact this
    have hX64:(Xn:Int)<64:=by have:=HVB.out;omega
    clear hXn HVB
    go_region_held3 (fun W=>W.cell? ⟨cb,2,none⟩=some (.int .i64 z)/\W.cell? ⟨w.heap.size,0,none⟩=some (.slice x zs.length cx)/\W.cell? ⟨w.heap.size,1,none⟩=some (.int .i64 N)/\W.cell? ⟨cb,1,none⟩=some (.int .i64 b))
     (first | exact HC.out | exact HC8.out)
     (first
      | (go_at_call 102;refine (HG2 _ (by exact HXW.out)).mono ?_;rintro e w8 ⟨rfl,hb8'⟩;have HB8:Hid (Below B w2 w8/\True):=⟨HB4.out.1.trans ((Below.drewS hb8').mono HZ4.out),trivial⟩;have HO8:Hid (OVI w8 B (.slice (some ⟨g,0,none⟩) (k+1) cap1) (so T v E (k+1))):=HOV4.out.onlyF (Only.ofBelow (S:=fun _=>False) (Below.drewS hb8') nl) (by simp);have HC8:Hid (w8.cell? ⟨cb,2,none⟩=some (.int .i64 z)/\w8.cell? ⟨w.heap.size,0,none⟩=some (.slice x zs.length cx)/\w8.cell? ⟨w.heap.size,1,none⟩=some (.int .i64 N)/\w8.cell? ⟨cb,1,none⟩=some (.int .i64 b)):=⟨keep (Below.drewS hb8') HLT4.out.1 HC.out.1,keep (Below.drewS hb8') HLT4.out.2 HC.out.2.1,keep (Below.drewS hb8') HLT4.out.2 HC.out.2.2.1,keep (Below.drewS hb8') HLT4.out.1 HC.out.2.2.2⟩))
    all_goals
     clear HC HC8;go_wp2;go_roundw
     case rel=>
      exact ⟨k+1,z+Xn,en-b,by omega,by go_num,by rw [show (en:Int)-(b:Int)=((en-b:Nat):Int) from by omega],(by have hwz:IntKind.i64.wrap ((z:Int)+(Xn:Int))=((z+Xn:Nat):Int):=(by rw [IntWalk.i64_in _ (by omega)];omega);exact congrArg (Value.int IntKind.i64) hwz),HSG2.out.1,HO8.out,HB8.out.1⟩
     case measure=>simp [intOf];omega
  ·have hkn:k=n:=by omega
   subst hkn;have HOF:Hid (OVI wr w.heap.size (.slice au k cu) (so T v E k)):=HOV.out.weakF (Nat.le_of_lt HS2.out);clear hTw HOV HRW HBL
   by_cases h1:en=0
   ·by_cases h2:st=0
    ·have HD:Hid (sg T v E k=some (0,0)/\True):=⟨by rw [HSG.out.1,h1,h2],trivial⟩
     subst h1 h2;clear HSG;go_wp2;exact bodyPost_ret (v:=.tuple #[.slice au k cu,.bool true]) (by simp [results,Tryz.results107,go_sem]) rfl ⟨_,by rw [decide_eq_true HD.out.1],fun _=>HOF.out,HBB.out.1⟩
    ·have HD:Hid (¬sg T v E k=some (0,0)):=by unfold Hid;rw [HSG.out.1];simp;omega
     have h2i:((st:Int) == 0)=false:=by simp;omega
     subst h1;clear HSG;go_wp2;exact bodyPost_ret (v:=.tuple #[.slice au k cu,.bool false]) (by simp [results,Tryz.results107,go_sem]) rfl ⟨_,by rw [decide_eq_false HD.out],fun h=>absurd h HD.out,HBB.out.1⟩
   ·have HD:Hid (¬sg T v E k=some (0,0)):=by unfold Hid;rw [HSG.out.1];simp;omega
    have h2i:((en:Int) == 0)=false:=by simp;omega
    clear HSG;go_wp2;exact bodyPost_ret (v:=.tuple #[.slice au k cu,.bool false]) (by simp [results,Tryz.results107,go_sem]) rfl ⟨_,by rw [decide_eq_false HD.out],fun h=>absurd h HD.out,HBB.out.1⟩
theorem ziv (a:Option Addr) (ca:Nat) (ls:List Int) (x:Option Addr) (cx:Nat) (zs:List Int) (N v n:Nat) (T:List Int) (w:World) (ha:Ins w a ls) (hx:Byt w x zs) (hz:zs=enc N v) (hN:N<=4096) (hn:n<=300) (hnb:zk ls=true) (hTe:tb (pl (fl 0 ls) (plc 64)) ls 64=T) :
  Calls Tryz.prog 107 #[.slice a ls.length ca,.agg #[.slice x zs.length cx,.int .i64 N],.int .i64 n] w fun e w'=>
   ∃ u,e=.returned (.tuple #[u,.bool (fgB T v N n)])/\(fgB T v N n=true->OVI w' w.heap.size u (so T v (N-6) n))/\Below w.heap.size w w':=by
 by_cases h6:N<6
 ·refine (zf8 a ca ls x cx zs N v n T w ha hx hz hN hn hnb h6 hTe).mono ?_
  rintro e w' ⟨rfl,hb⟩;exact ⟨_,by rw [zbd h6],fun h=>by rw [zbd h6] at h;simp at h,hb⟩
 ·obtain ⟨E,rfl⟩:∃ E,N=E+6:=⟨N-6,by omega⟩
  refine (zhu a ca ls x cx zs E (E+6) v n T w ha hx hz hN hn hnb rfl hTe).mono ?_;rintro e w' ⟨u,rfl,h1,hb⟩;have e1:fgB T v (E+6) n=decide (sg T v E n=some (0,0)):=by unfold fgB;simp
  rw [Nat.add_sub_cancel,e1];exact ⟨u,rfl,fun h=>h1 (by simpa using h),hb⟩
end Go.Proofs.YtjmcjbmjgpponaaGreatDoor
