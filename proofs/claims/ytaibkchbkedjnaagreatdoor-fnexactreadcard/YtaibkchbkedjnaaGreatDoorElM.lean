import Derived.Test.YtaibkchbkedjnaaGreatDoorDkW
import Derived.Test.YtaibkchbkedjnaaGreatDoorElN
set_option maxRecDepth 20000
set_option maxHeartbeats 16000000
namespace Go.Proofs.YtaibkchbkedjnaaGreatDoor
open Go.RowKit
set_option linter.unusedVariables false
section
variable {p : Bool} {w w' : World} {B : Nat} {v : Value} {es : List El}
theorem OVr.letters (h:OVr p w B v es) (k:Nat) (hk:k<es.length) (s:El) (hs:s.cells p=(es.getD k de).cells p) (hm:Mine w B w.heap.size (es.getD k de).a (es.getD k de).c (es.getD k de).ls) (ho:Only (zg (es.getD k de).a) w w'):OVr p w' B v (es.set k s):=by
 have h2:=h.stay ho (fun b hb=>h.other hm hb)
 exact ⟨by rw [List.length_set,za5 p es s k hk hs];exact h2.own⟩
end
theorem z8v (a:Option Addr) (cap B:Nat) (ss:List El) (k:Int) (w:World) (h:OVr false w B (.slice a ss.length cap) ss) (hd:Deep w B ss) (hn:ss.length+zb ss<=1048576) (h0:0<=k) (h1:k<=1) :
  Calls Tryz.prog 30 #[.slice a ss.length cap,.int .i64 k] w fun e w'=>e=.returned (.int .i64 (k+zb ss))/\(OVr false w' B (.slice a ss.length cap) (mkE false k ss)/\Deep w' B (mkE false k ss))/\Only (fun b=>∃ s ∈ ss,zg s.a b) w w':=by
 have HST:Hid _:=z4c false k ss;have HGE:Hid _:=z6j false k ss;have HSU:Hid _:=z75 false k ss;have HLB:Hid _:=z7k false k ss;have HLE:Hid (∀ j,j<=ss.length->(mkE false k (ss.take j)++ss.drop j).length=ss.length):=fun j hj=>by rw [List.length_append,z1p,List.length_take,List.length_drop];omega
 have HO:Hid (OVr false w B (.slice a ss.length cap) ss/\Deep w B ss):=⟨h,hd⟩;have HMM:Hid (∀ j,j<ss.length->ss.getD j de ∈ ss/\(ss.getD j de).ls.length<=zb ss):=fun j hj=>⟨zf hj,z0c (zf hj)⟩
 clear h hd;have HFI:Hid (mkE false k (ss.take ss.length)++ss.drop ss.length=mkE false k ss/\mkA false k ss ss.length=k+zb ss):=⟨by rw [List.take_length];simp,by rw [z8n];simp [eO]⟩
 generalize hlen:ss.length=n at *;have HL:Hid (ss.length=n/\True):=⟨hlen,trivial⟩;clear hlen;generalize hT:zb ss=T at *;clear hT
 go_enter Tryz.func30,Tryz.ntmps30
 go_wp2
 go_loopw [1,5] (fun q i wr=>∃ (j:Nat) (y:Int),j<=n/\i=.int .i64 j/\q=.int .i64 y/\y=mkA false k ss j/\OVr false wr B (.slice a n cap) (mkE false k (ss.take j)++ss.drop j)/\Deep wr B (mkE false k (ss.take j)++ss.drop j)/\Only (fun b=>∃ s ∈ ss,zg s.a b) w wr) (fun _ i _=>n-(intOf i).toNat)
 case atStart=>exact ⟨0,k,Nat.zero_le _,rfl,rfl,by simp [mkA,zb],by simpa [mkE] using HO.out.1,by simpa [mkE] using HO.out.2,Only.refl _ _⟩
 case round=>
  clear HO;obtain ⟨j,y,hj,rfl,rfl,hy,hown,hdeep,honly⟩:=hrel;have hyb:=HLB.out j hj;have HY:Hid (y=mkA false k ss j/\True):=⟨hy,trivial⟩;rw [<-hy] at hyb;have HOW:Hid (OVr false wr B (.slice a n cap) (mkE false k (ss.take j)++ss.drop j)/\Deep wr B (mkE false k (ss.take j)++ss.drop j)):=⟨hown,hdeep⟩;have HON:Hid (Only (fun b=>∃ s ∈ ss,zg s.a b) w wr):=honly
  clear hy
  by_cases hjn:j<n
  ·obtain ⟨g,cap',e',_,hg2,_,hli⟩:=hown.cell j (by rw [HLE.out j hj];exact hjn)
   have hl1:=(hli j (by rw [HLE.out j hj];exact hjn)).c1
   have hmi:=hdeep.mine _ (zf (k:=j) (by rw [HLE.out j hj];exact hjn))
   rw [HGE.out j hjn] at hl1 hmi
   simp only [eW,eO,cond_false,Nat.mul_one,Nat.add_zero] at hl1
   obtain ⟨rfl,-,rfl⟩:a=some ⟨g,0,none⟩/\_/\cap=cap':=by simpa using e'
   have hst:=HST.out j hjn;rw [<-HY.out.1] at hst;have HSTJ:Hid (_/\True):=⟨hst,trivial⟩;obtain ⟨HIN,hT2⟩:=HMM.out j hjn;have HGJ:Hid (_/\True):=⟨HGE.out j hjn,trivial⟩;have HYN:Hid (mkA false k ss (j+1)=y+(ss.getD j de).ls.length/\True):=⟨by rw [HSU.out j hjn,HY.out.1];simp [eO],trivial⟩
   have HMI:Hid (Mine wr B wr.heap.size (ss.getD j de).a (ss.getD j de).c (ss.getD j de).ls):=hmi;have HMK:=z1h (ss.getD j de).a B wr.heap.size (ss.getD j de).c (ss.getD j de).ls y wr hmi (by omega) (by omega) (by omega)
   have HIN':Hid (ss.getD j de ∈ ss):=HIN;clear hst hown hdeep honly hmi hli e' HIN HY;generalize hs:ss.getD j de=s at *;clear hs;go_wp2_with fail
   refine HMK.mono ?_;clear HMK;rintro e w2 ⟨rfl,hm2,ho2⟩;have hlk:j<(mkE false k (ss.take j)++ss.drop j).length:=by rw [HLE.out j hj];exact hjn
   have hc2:(mk1 false y s).cells false=((mkE false k (ss.take j)++ss.drop j).getD j de).cells false:=by rw [HGJ.out.1];simp [mk1,El.cells,z0q]
   have hR2:=HOW.out.1.letters j hlk (mk1 false y s) hc2 (by rw [HGJ.out.1];exact HMI.out) (w':=w2) (by rw [HGJ.out.1];exact ho2)
   have hD2:=HOW.out.2.letters j hlk (mk1 false y s) (by rw [HGJ.out.1];rfl) (w':=w2) (by rw [HGJ.out.1];exact ho2) (by simpa [mk1,eO] using hm2)
   rw [HSTJ.out.1] at hR2 hD2;have HN2:Hid _:=And.intro hR2 hD2;have HO2:Hid (Only (fun b=>∃ s ∈ ss,zg s.a b) w w2):=HON.out.trans (ho2.mono (fun b _ hb=>⟨s,HIN'.out,hb⟩))
   clear hR2 hD2 hc2 hlk ho2 hm2 HOW HON HMI HGJ;go_wp2;go_roundw
   case rel=>exact ⟨j+1,_,by omega,by go_num,rfl,HYN.out.1.symm,HN2.out.1,HN2.out.2,HO2.out⟩
   case measure=>simp [intOf];omega
  ·have hjn2:j=n:=by omega
   subst hjn2;have HFO:Hid (OVr false wr B (.slice a j cap) (mkE false k ss)/\Deep wr B (mkE false k ss)):=by rw [<-HFI.out.1];exact HOW.out
   have HYF:Hid (y=k+(T:Nat)/\True):=⟨HY.out.1.trans HFI.out.2,trivial⟩;clear HOW hown hdeep;go_wp2;go_ret;exact ⟨by rw [<-HYF.out.1];rfl,HFO.out,HON.out⟩
end Go.Proofs.YtaibkchbkedjnaaGreatDoor
