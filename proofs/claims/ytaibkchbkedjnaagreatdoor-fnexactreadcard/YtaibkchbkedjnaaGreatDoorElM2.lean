import Derived.Test.YtaibkchbkedjnaaGreatDoorElM
set_option maxRecDepth 20000
set_option maxHeartbeats 16000000
namespace Go.Proofs.YtaibkchbkedjnaaGreatDoor
open Go.RowKit
set_option linter.unusedVariables false
theorem zam (a:Option Addr) (cap B:Nat) (ss:List El) (k:Int) (w:World) (h:OVr true w B (.slice a ss.length cap) ss) (hd:Deep w B ss) (hn:ss.length+zb ss<=1048576) (h0:0<=k) (h1:k+ss.length+zb ss<2097152) :
  Calls Tryz.prog 64 #[.slice a ss.length cap,.int .i64 k] w fun e w'=>e=.returned (.int .i64 (k+zb ss+ss.length))/\(OVr true w' B (.slice a ss.length cap) (mkE true k ss)/\Deep w' B (mkE true k ss))/\Only (fun b=>(Value.slice a ss.length cap).ownBlock=some b\/∃ s ∈ ss,zg s.a b) w w':=by
 have HST:Hid _:=z4c true k ss;have HGE:Hid _:=z6j true k ss;have HSU:Hid _:=z75 true k ss;have HLB:Hid _:=z7k true k ss;have HLE:Hid (∀ j,j<=ss.length->(mkE true k (ss.take j)++ss.drop j).length=ss.length):=fun j hj=>by rw [List.length_append,z1p,List.length_take,List.length_drop];omega
 have HO:Hid (OVr true w B (.slice a ss.length cap) ss/\Deep w B ss):=⟨h,hd⟩;have HMM:Hid (∀ j,j<ss.length->ss.getD j de ∈ ss/\(ss.getD j de).ls.length<=zb ss):=fun j hj=>⟨zf hj,z0c (zf hj)⟩
 clear h hd;have HFI:Hid (mkE true k (ss.take ss.length)++ss.drop ss.length=mkE true k ss/\mkA true k ss ss.length=k+zb ss+ss.length):=⟨by rw [List.take_length];simp,by rw [z8n];simp [eO]⟩
 generalize hlen:ss.length=n at *;have HL:Hid (ss.length=n/\True):=⟨hlen,trivial⟩;clear hlen;generalize hT:zb ss=T at *;clear hT
 go_enter Tryz.func64,Tryz.ntmps64
 go_wp2
 go_loopw [1,5] (fun q i wr=>∃ (j:Nat) (y:Int),j<=n/\i=.int .i64 j/\q=.int .i64 y/\y=mkA true k ss j/\OVr true wr B (.slice a n cap) (mkE true k (ss.take j)++ss.drop j)/\Deep wr B (mkE true k (ss.take j)++ss.drop j)/\Only (fun b=>(Value.slice a n cap).ownBlock=some b\/∃ s ∈ ss,zg s.a b) w wr) (fun _ i _=>n-(intOf i).toNat)
 case atStart=>exact ⟨0,k,Nat.zero_le _,rfl,rfl,by simp [mkA,zb],by simpa [mkE] using HO.out.1,by simpa [mkE] using HO.out.2,Only.refl _ _⟩
 case round=>
  clear HO;obtain ⟨j,y,hj,rfl,rfl,hy,hown,hdeep,honly⟩:=hrel;have hyb:=HLB.out j hj;have HY:Hid (y=mkA true k ss j/\True):=⟨hy,trivial⟩;rw [<-hy] at hyb;have HOW:Hid (OVr true wr B (.slice a n cap) (mkE true k (ss.take j)++ss.drop j)/\Deep wr B (mkE true k (ss.take j)++ss.drop j)):=⟨hown,hdeep⟩;have HON:Hid (Only (fun b=>(Value.slice a n cap).ownBlock=some b\/∃ s ∈ ss,zg s.a b) w wr):=honly
  clear hy
  by_cases hjn:j<n
  ·obtain ⟨g,cap',e',_,hg2,hfz,hli⟩:=hown.cell j (by rw [HLE.out j hj];exact hjn)
   have hl0:=(hli j (by rw [HLE.out j hj];exact hjn)).c0 rfl
   have hl1:=(hli j (by rw [HLE.out j hj];exact hjn)).c1
   have hmi:=hdeep.mine _ (zf (k:=j) (by rw [HLE.out j hj];exact hjn))
   rw [HGE.out j hjn] at hl0 hl1 hmi
   simp only [eW,eO,cond_true] at hl0 hl1
   obtain ⟨rfl,-,rfl⟩:a=some ⟨g,0,none⟩/\_/\cap=cap':=by simpa using e'
   have f0:=hfz (j*2);have hst:=HST.out j hjn;rw [<-HY.out.1] at hst;have HSTJ:Hid (_/\True):=⟨hst,trivial⟩;obtain ⟨HIN,hT2⟩:=HMM.out j hjn;have HGJ:Hid (_/\True):=⟨HGE.out j hjn,trivial⟩;have HYN:Hid (mkA true k ss (j+1)=y+1+(ss.getD j de).ls.length/\True):=⟨by rw [HSU.out j hjn,HY.out.1];simp [eO],trivial⟩
   have hlk:j<(mkE true k (ss.take j)++ss.drop j).length:=by rw [HLE.out j hj];exact hjn
   have hlk2:∀ s:El,j<((mkE true k (ss.take j)++ss.drop j).set j s).length:=fun s=>by rw [List.length_set];exact hlk
   have hgs:∀ s:El,((mkE true k (ss.take j)++ss.drop j).set j s).getD j de=s:=fun s=>by rw [z37 _ j j _ hlk,if_pos rfl]
   have hR1:=hown.store j hlk { (ss.getD j de) with n:=y } 0 (by simp [eW]) (.int .i64 y) (by rw [HGE.out j hjn];rfl) (g:=g) rfl
   have hon1:Only (fun b=>b=g) wr (wr.setCell ⟨g,j*2,none⟩ (.int .i64 y)):=(Only.refl (fun b=>b=g) wr).setCell (p:=⟨g,j*2,none⟩) (.inl rfl) _
   have hD1:=hdeep.stay hon1 (fun x hx b hb e=>hown.other (hdeep.mine x hx) (g:=g) rfl (e ▸ hb))
   have hD2:Deep (wr.setCell ⟨g,j*2,none⟩ (.int .i64 y)) B ((mkE true k (ss.take j)++ss.drop j).set j { (ss.getD j de) with n:=y }):=by
    refine ⟨fun t ht=>?_,by rw [z6o _ j _ (by rw [HGE.out j hjn]) hlk];exact hD1.apart⟩
    rcases List.mem_or_eq_of_mem_set ht with ht | rfl
    ·exact hD1.mine t ht
    ·have:=hD1.mine _ (zf hlk)
     rw [HGE.out j hjn] at this;exact this
   have hmi1:=hD2.mine _ (zf (hlk2 _));rw [hgs] at hmi1
   simp only at hmi1
   rw [show j*eW true+0=j*2 from by simp [eW]] at hR1
   have HR1:Hid (OVr true (wr.setCell ⟨g,j*2,none⟩ (.int .i64 y)) B (.slice (some ⟨g,0,none⟩) n cap) ((mkE true k (ss.take j)++ss.drop j).set j { (ss.getD j de) with n:=y })/\Deep (wr.setCell ⟨g,j*2,none⟩ (.int .i64 y)) B ((mkE true k (ss.take j)++ss.drop j).set j { (ss.getD j de) with n:=y })):=⟨hR1,hD2⟩
   have HMI:Hid (Mine (wr.setCell ⟨g,j*2,none⟩ (.int .i64 y)) B (wr.setCell ⟨g,j*2,none⟩ (.int .i64 y)).heap.size (ss.getD j de).a (ss.getD j de).c (ss.getD j de).ls):=hmi1;have HMK:=z1h (ss.getD j de).a B _ (ss.getD j de).c (ss.getD j de).ls (y+1) _ hmi1 (by omega) (by omega) (by omega)
   have HIN':Hid (ss.getD j de ∈ ss):=HIN;have HON1:Hid (Only (fun b=>(Value.slice (some ⟨g,0,none⟩) n cap).ownBlock=some b\/∃ s ∈ ss,zg s.a b) w (wr.setCell ⟨g,j*2,none⟩ (.int .i64 y))):=HON.out.trans (hon1.mono (fun b _ hb=>.inl (by rw [hb];rfl)))
   have HK2:Hid ((∀ s:El,j<((mkE true k (ss.take j)++ss.drop j).set j s).length)/\(∀ s:El,((mkE true k (ss.take j)++ss.drop j).set j s).getD j de=s)):=⟨hlk2,hgs⟩;clear hst hown hdeep honly hmi hli e' HIN HY hR1 hD1 hD2 hmi1 hon1 hlk hlk2 hgs hfz HON HOW;generalize hs:ss.getD j de=s at *;clear hs;go_wp2_with fail
   refine HMK.mono ?_;clear HMK;rintro e w2 ⟨rfl,hm2,ho2⟩;have hc2:(mk1 true y s).cells true=(((mkE true k (ss.take j)++ss.drop j).set j { s with n:=y }).getD j de).cells true:=by rw [HK2.out.2];simp [mk1,El.cells,z0q]
   have hR2:=HR1.out.1.letters j (HK2.out.1 _) (mk1 true y s) hc2 (by rw [HK2.out.2];exact HMI.out) (w':=w2) (by rw [HK2.out.2];exact ho2)
   have hD2:=HR1.out.2.letters j (HK2.out.1 _) (mk1 true y s) (by rw [HK2.out.2];rfl) (w':=w2) (by rw [HK2.out.2];exact ho2) (by simpa [mk1,eO] using hm2)
   rw [List.set_set,HSTJ.out.1] at hR2 hD2;have HN2:Hid _:=And.intro hR2 hD2;have HO2:Hid (Only (fun b=>(Value.slice (some ⟨g,0,none⟩) n cap).ownBlock=some b\/∃ s ∈ ss,zg s.a b) w w2):=HON1.out.trans (ho2.mono (fun b _ hb=>.inr ⟨s,HIN'.out,hb⟩))
   clear hR2 hD2 hc2 ho2 hm2 HMI HGJ HR1 HON1;go_wp2;go_roundw
   case rel=>exact ⟨j+1,_,by omega,by go_num,rfl,HYN.out.1.symm,HN2.out.1,HN2.out.2,HO2.out⟩
   case measure=>simp [intOf];omega
  ·have hjn2:j=n:=by omega
   subst hjn2;have HFO:Hid (OVr true wr B (.slice a j cap) (mkE true k ss)/\Deep wr B (mkE true k ss)):=by rw [<-HFI.out.1];exact HOW.out
   have HYF:Hid (y=k+(T:Nat)+(j:Nat)/\True):=⟨HY.out.1.trans HFI.out.2,trivial⟩;clear HOW hown hdeep;go_wp2;go_ret;exact ⟨by rw [<-HYF.out.1];rfl,HFO.out,HON.out⟩
end Go.Proofs.YtaibkchbkedjnaaGreatDoor
