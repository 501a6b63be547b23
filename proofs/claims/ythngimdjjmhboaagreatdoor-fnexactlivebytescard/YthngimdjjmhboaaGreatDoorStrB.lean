/-
  Bytes as strings: when two rows of bytes are one string.
-/
import Derived.Test.YthngimdjjmhboaaGreatDoorElD
import Derived.Lib.Bytes
namespace Go.Proofs.YthngimdjjmhboaaGreatDoor
open Go.RowKit
set_option linter.unusedVariables false
set_option linter.unusedSimpArgs false

theorem conv_bytes8 (w:World) (a:Option Addr) (c:Nat) (zs:List Int) (hb:Byt w a zs):(convert 36 9 (.slice a zs.length c)).run Tryz.prog w=.ok (.string (strOfNums zs)) w:=by
 rcases Nat.eq_zero_or_pos zs.length with h0 | h0
 ·obtain rfl:zs=[]:=List.eq_nil_of_length_eq_zero h0
  cases a with
  | none=>exact run_convert_bytes_nil (P:=Tryz.prog) w 36 5 Tryz.underlying36 Tryz.underlying5 0 c 9 Tryz.underlying9
  | some x=>
   show (convert 36 9 (.slice (some x) 0 c)).run Tryz.prog w=_
   rw [run_convert_bytes_string w 36 9 5 _ _ c Tryz.underlying36 Tryz.underlying5 Tryz.underlying9,run_bytesToString w x 0 c [] (by simp [loadCells,loadCellsFrom])]
   rfl
 ·obtain ⟨b,off,rfl,_,hc⟩:=hb.2 h0
  exact run_convert_bytes_arg (P:=Tryz.prog) w 36 5 Tryz.underlying36 Tryz.underlying5 b off zs.length c zs rfl hc 9 Tryz.underlying9

def sm8 (zs ys:List Int):Bool:=(strOfNums zs).toList == (strOfNums ys).toList
theorem ofNat_inj8 {a b:Int} (ha:0≤a∧a≤255) (hb:0≤b∧b≤255) (h:UInt8.ofNat a.toNat=UInt8.ofNat b.toNat):a=b:=by
 have h1:=congrArg UInt8.toNat h
 simp only [UInt8.toNat_ofNat'] at h1
 omega
theorem ofNats_inj8 :∀ {zs ys:List Int},(∀ z ∈ zs,0≤z∧z≤255)→(∀ z ∈ ys,0≤z∧z≤255)→zs.map (fun a=>UInt8.ofNat a.toNat)=ys.map (fun a=>UInt8.ofNat a.toNat)→zs=ys
 | [],[],_,_,_=>rfl
 | [],y :: ys,_,_,h=>by simp at h
 | z :: zs,[],_,_,h=>by simp at h
 | z :: zs,y :: ys,hz,hy,h=>by
  simp only [List.map_cons,List.cons.injEq] at h
  rw [ofNat_inj8 (hz z (by simp)) (hy y (by simp)) h.1,ofNats_inj8 (fun x hx=>hz x (by simp [hx])) (fun x hx=>hy x (by simp [hx])) h.2]
theorem sm8_iff {zs ys:List Int} (hz:∀ z ∈ zs,0≤z∧z≤255) (hy:∀ z ∈ ys,0≤z∧z≤255):sm8 zs ys=true↔zs=ys:=by
 unfold sm8
 rw [Lib.strOfNums_toList,Lib.strOfNums_toList,beq_iff_eq]
 unfold Lib.bytesOf
 exact ⟨fun h=>ofNats_inj8 hz hy h,fun h=>by rw [h]⟩
end Go.Proofs.YthngimdjjmhboaaGreatDoor
