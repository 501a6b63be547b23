/- Lemmas on the way. -/
import Derived.Test.YtfeokafkhnbdiaaGreatDoorPcB
import Derived.Laws.BytesArg
import Derived.Lib.ConvBytes
import Derived.Test.YtfeokafkhnbdiaaGreatDoorDrC
import Derived.Test.YtfeokafkhnbdiaaGreatDoorSqEq
import Derived.Test.YtfeokafkhnbdiaaGreatDoorRows
import Derived.WalkKit
import Derived.ProofKit
import Derived.OpenShut
import Derived.ShutString
import Derived.ChangeOld
import Derived.Below
import Derived.Lib.SmallJoins
import Derived.Test.YtfeokafkhnbdiaaGreatDoorCards
import Derived.Test.YtfeokafkhnbdiaaGreatDoorTie
import Derived.LaidMore
import Derived.Stop.Joined
import Derived.Stop.LaidErr
import Derived.WalkSmall
import Derived.SevenTiedAt
set_option maxRecDepth 20000
set_option maxHeartbeats 16000000
namespace Go.Proofs.YtfeokafkhnbdiaaGreatDoor
open Go.RowKit
set_option linter.unusedVariables false
theorem conv_bytes (w:World) (a:Option Addr) (c:Nat) (zs:List Int) (hb:Byt w a zs):(convert 22 9 (.slice a zs.length c)).run Tryz.prog w=.ok (.string (strOfNums zs)) w:=by
 rcases Nat.eq_zero_or_pos zs.length with h0 | h0
 ·obtain rfl:zs=[]:=List.eq_nil_of_length_eq_zero h0
  cases a with
  | none=>exact run_convert_bytes_nil (P:=Tryz.prog) w 22 5 Tryz.underlying22 Tryz.underlying5 0 c 9 Tryz.underlying9
  | some x=>
   show (convert 22 9 (.slice (some x) 0 c)).run Tryz.prog w=_
   rw [run_convert_bytes_string w 22 9 5 _ _ c Tryz.underlying22 Tryz.underlying5 Tryz.underlying9,run_bytesToString w x 0 c [] (by simp [loadCells,loadCellsFrom])]
   rfl
 ·obtain ⟨b,off,rfl,_,hc⟩:=hb.2 h0
  exact run_convert_bytes_arg (P:=Tryz.prog) w 22 5 Tryz.underlying22 Tryz.underlying5 b off zs.length c zs rfl hc 9 Tryz.underlying9
theorem same_yes (a b:Option Addr) (ca cb:Nat) (zs:List Int) (w:World) (ha:Byt w a zs) (hb:Byt w b zs) :
  Calls Tryz.prog 14 #[.slice a zs.length ca,.slice b zs.length cb] w fun e w'=>e=.returned (.bool true)∧w'=w:=by
 have h1:=conv_bytes w a ca zs ha
 have h2:=conv_bytes w b cb zs hb
 generalize strOfNums zs=S at *
 go_enter Tryz.func14,Tryz.ntmps14
 go_wp2
 go_ret
 exact ⟨rfl,rfl⟩
theorem ins_newN (W:World) (T:TypeId) (zs:List Int) (hr:∀ z ∈ zs,-9223372036854775808≤z∧z≤9223372036854775807):Ins (W.alloc (.cells (zs.map (Value.int .i64)).toArray T)) (some ⟨W.heap.size,0,none⟩) zs:=by
 refine ⟨hr,fun hp=>⟨W.heap.size,0,rfl,by simp,fun i hi=>?_⟩⟩
 rw [Nat.zero_add,cell_of_row _ W.heap.size i _ T (0,0) (heap_alloc_new W _)]
 simp [hi]
set_option linter.unusedSimpArgs false
theorem wpList_append_b1B {ops:Array Oper} {rest:List Oper} {o:Oper} {a:Act} {Q:Exit→Act→World→Prop} {w:World} (hgd:o.guard=none) (s x:Operand)
  (ho:o.op=.call { callee:=.builtin .append,args:=#[s,x],argTypes:=#[22,22] })
  (B:Nat) (v:Value) (zs:List Int) (hs:a.eval s=v) (hown:OVB w B v zs) (X c:Nat) (z:Int) (hx:a.eval x=.slice (some ⟨X,0,none⟩) 1 c) (hX:w.cell? ⟨X,0,none⟩=some (.int .u8 z)) (hz:0≤z∧z≤255) (hb1:zs.length≤1000000) (hbase:B≤w.heap.size)
  (h:∀ v' w',OVB w' B v' (zs++[z])→w.grownBy w' v.ownBlock→wpList Tryz.prog ops Q rest (a.put o.dst v') w'):wpList Tryz.prog ops Q (o :: rest) a w:=by
 obtain ⟨i0,hi,hz0,hz1,hz2⟩:=info_parts Tryz.infoU8
 obtain ⟨v',w',hr,h2,h3,_,_⟩:=run_append_own_at (P:=Tryz.prog) w B 22 o.type 5 i0 (.int .u8 0) 1 1 Tryz.underlying22 hi hz0 hz1 hz2 rfl (by decide) v zs.length _ hown.1 ⟨X,0,none⟩ 1 c [.int .u8 z] rfl (fun j u hu=>by
  match j,hu with
  | 0,hu=>(simp at hu;subst hu;simpa [Addr.add] using hX)) (by intro u hu;simp at hu;subst hu;rfl) (by unfold maxLen;omega) (by omega) hbase
 refine wpList_plain hgd fun K hK'=>?_
 unfold Oper.wp execOp
 simp only [ho,resolve,invoke,builtin,Sem.run_bind,Sem.run_pure,Result.andThen_ok,List.map_toArray,List.map_cons,List.map_nil,hs,hx,hr]
 refine hK' _ _ (h v' w' ⟨?_,?_⟩ h3)
 ·rw [List.length_append,List.map_append]
  simpa using h2
 ·intro y hy
  rcases List.mem_append.1 hy with hy | hy
  ·exact hown.2 y hy
  ·obtain rfl:y=z:=by simpa using hy
   exact hz
def slLen :Value→Nat
 | .slice _ n _=>n
 | _=>0
theorem OVB.cap {w:World} {B:Nat} {a:Option Addr} {n c:Nat} {zs:List Int} (h:OVB w B (.slice a n c) zs):zs.length≤c∧c≤maxLen∧n=zs.length∧(0<zs.length→∃ g,a=some ⟨g,0,none⟩∧g<w.heap.size):=by
 rcases h.1.2 with ⟨e,h0⟩ | ⟨g,cap,cur,e,hg,hh,r⟩
 ·simp only [Value.slice.injEq] at e
  exact ⟨by omega,by unfold maxLen;omega,by omega,fun h1=>by omega⟩
 ·simp only [Value.slice.injEq] at e
  obtain ⟨rfl,rfl,rfl⟩:=e
  exact ⟨r.1,r.2.1,rfl,fun _=>⟨g,rfl,(Array.getElem?_eq_some_iff.1 hh).1⟩⟩
theorem OVB.front {w:World} {B:Nat} {a:Option Addr} {c:Nat} {zs:List Int} (h:OVB w B (.slice a zs.length c) zs) (n:Nat) (hn:n≤zs.length):OVB w B (.slice a n c) (zs.take n):=by
 have hl:(zs.take n).length=n:=by rw [List.length_take];omega
 refine ⟨⟨by simp,?_⟩,fun z hz=>h.2 z (List.mem_of_mem_take hz)⟩
 rcases h.1.2 with ⟨e,h0⟩ | ⟨g,cap,cur,e,hg,hh,r⟩
 ·simp only [Value.slice.injEq] at e
  left
  exact ⟨by rw [show n=0 by omega,e.1,e.2.2],by rw [hl];omega⟩
 ·simp only [Value.slice.injEq] at e
  obtain ⟨rfl,-,rfl⟩:=e
  right
  refine ⟨g,c,cur,by rw [hl],hg,hh,by rw [hl];have:=r.1;omega,r.2.1,r.2.2.1,?_⟩
  have h4:=r.2.2.2
  rw [hl,List.map_take]
  have e9:((cur.toList.take (zs.length*1)).take (n*1))=cur.toList.take (n*1):=by rw [List.take_take,Nat.min_eq_left (by omega)]
  rw [←e9,h4,Nat.mul_one]
theorem byt_of_conv (W:World) (zs:List Int) (s:ByteArray) (hz:zs.length=s.size) (hr:∀ z ∈ zs,0≤z∧z≤255) (hc:∀ j,j<zs.length→zs.getD j 0=((s.data.toList.getD j 0).toNat:Int)):Byt (Lib.bytesWorld W 5 s) (some ⟨W.heap.size,0,none⟩) zs:=
 ⟨hr,fun _=>⟨W.heap.size,0,rfl,by rw [Lib.bytesWorld_size];omega,fun i hi=>by
  rw [Nat.zero_add,Lib.bytesWorld_cell W 5 s i (by omega),hc i hi]⟩⟩
theorem below_conv (W:World) (s:ByteArray):Below W.heap.size W (Lib.bytesWorld W 5 s):=by
 refine ⟨rfl,rfl,rfl,by rw [Lib.bytesWorld_size];omega,fun k hk=>Lib.bytesWorld_at_old W 5 s k hk⟩
theorem Dr.bytes4 {w0 w:World} {B R:Nat} {a:Option Addr} {bs:List Int} {cap:Nat} (h:Dr w0 w B R a bs cap) (n:Nat) (hn:n≤65) :
  Calls Tryz.prog 34 #[.pointer (some ⟨R,0,none⟩),.int .i64 n] w fun e w'=>∃ (a':Option Addr) (c':Nat) (ls:List Int),e=.returned (.slice a' n c')∧ls.length=n∧OVB w' w.heap.size (.slice a' n c') ls∧Dr w0 w' B R a bs cap∧Only (fun k=>k=R) w w':=by
 have ksc:=fun (w:World) (s:ByteArray)=>Lib.run_convert_string_bytes (P:=Tryz.prog) w 9 22 5 s Tryz.underlying9 Tryz.underlying22 Tryz.underlying5
 have H:Hid (Dr w0 w B R a bs cap):=h
 have hRB:=h.cur.lt
 clear h
 go_enter Tryz.func34,Tryz.ntmps34
 go_wp2_with fail
 refine (H.out.below 5 (by omega) (by omega)).mono ?_
 rintro e w1 ⟨⟨how,hw1,hw2,rfl⟩,hd1,ho1⟩
 have HD1:Hid (Dr w0 w1 B R a bs cap):=hd1
 have HO1:Hid (Only (fun k=>k=R) w w1):=ho1
 clear hd1 ho1 H
 go_wp2
 go_loopw [5] (fun bv W=>∃ (la:Option Addr) (lc:Nat) (ls:List Int),bv=.slice la ls.length lc∧OVB W w.heap.size (.slice la ls.length lc) ls∧ls.length≤68∧Dr w0 W B R a bs cap∧Only (fun k=>k=R) w W) (fun bv _=>n-slLen bv)
 case atStart=>exact ⟨none,0,[],rfl,OVB.nil _ _,by simp,HD1.out,HO1.out⟩
 case round=>
  clear HD1 HO1
  obtain ⟨la,lc,ls,rfl,hob,hll,hd,ho⟩:=hrel
  have HOB:Hid (OVB wr w.heap.size (.slice la ls.length lc) ls):=hob
  have HD:Hid (Dr w0 wr B R a bs cap):=hd
  have HO:Hid (Only (fun k=>k=R) w wr):=ho
  obtain ⟨m,hm⟩:∃ m,m=ls.length:=⟨_,rfl⟩
  have HM:Hid (m=ls.length∧True):=⟨hm,trivial⟩
  have hcap:=hob.cap
  have hsz:=ho.size
  clear hob hd ho
  by_cases hlt:ls.length<n
  ·have hltI:(ls.length:Int)<(n:Int):=by omega
   obtain rfl | rfl | rfl | rfl | rfl:how=0∨how=1∨how=2∨how=3∨how=4:=by omega
   ·skip
    go_wp2_with (at_builtin;(refine wpList_append_b1B rfl (.tmp 23) (.tmp 24) rfl w.heap.size (.slice la ls.length lc) ls rfl (HOB.out.alloc _) wr.heap.size 1 (7) rfl (by simp) (by omega) (by omega) (by have:=HO.out.size;simp;omega) ?_);intro v4 w4 hown hgrow)
    obtain ⟨a4,c4,rfl⟩:=hown.form
    have hon:Only (fun b=>(Value.slice la ls.length lc).ownBlock=some b) wr w4:=Only.grown ((Only.refl _ _).alloc _) hgrow (fun b hb=>.inl hb)
    have HO4:Hid (Only (fun k=>k=R) w w4):=Only.grown (HO.out.alloc _) hgrow (fun b hb=>.inr (HOB.out.blk hb))
    have HD4:Hid (Dr w0 w4 B R a bs cap):=HD.out.other hon (fun hh=>by have:=HOB.out.blk hh;omega) (fun b hh=>by have:=HOB.out.blk hh;omega)
    have HOV4:Hid (OVB w4 w.heap.size (.slice a4 (ls++[7]).length c4) (ls++[7])):=hown
    have hl4:(ls++[7]).length=ls.length+1:=by simp
    clear hown hgrow hon
    go_roundw
    case rel=>exact ⟨a4,c4,ls++[7],rfl,HOV4.out,by omega,HD4.out,HO4.out⟩
    case measure=>simp only [slLen];omega
   ·go_wp2_with fail
    have hoa:Only (fun _=>False) wr (wr.alloc (Obj.cells #[.string { data:=#[97,98,99] },.string { data:=#[97,98,99,100] },.string { data:=#[116,104,101,32] },.string { data:=#[120] }] 9)):=(Only.refl _ _).alloc _
    refine ((HD.out.other hoa (by simp) (by simp)).below 4 (by omega) (by omega)).mono ?_
    rintro e w5 ⟨⟨x,hx1,hx2,rfl⟩,hd5,ho5⟩
    have HD5:Hid (Dr w0 w5 B R a bs cap):=hd5
    have HO5:Hid (Only (fun k=>k=R) w w5):=(HO.out.trans (hoa.mono (by simp))).trans ho5
    have HOB5:Hid (OVB w5 w.heap.size (.slice la ls.length lc) ls):=(HOB.out.alloc _).stay ho5 (fun b hb=>by omega)
    have hRw:=HD.out.cur.lt
    have s0:w5.cell? ⟨wr.heap.size,0,none⟩=some (.string { data:=#[97,98,99] }):=ho5.cell (by simp) (by omega) (by simp)
    have s1:w5.cell? ⟨wr.heap.size,1,none⟩=some (.string { data:=#[97,98,99,100] }):=ho5.cell (by simp) (by omega) (by simp)
    have s2:w5.cell? ⟨wr.heap.size,2,none⟩=some (.string { data:=#[116,104,101,32] }):=ho5.cell (by simp) (by omega) (by simp)
    have s3:w5.cell? ⟨wr.heap.size,3,none⟩=some (.string { data:=#[120] }):=ho5.cell (by simp) (by omega) (by simp)
    clear hd5 ho5 hoa HD HO HOB
    obtain rfl | rfl | rfl | rfl:x=0∨x=1∨x=2∨x=3:=by omega
    ·have hcv:=byt_of_conv w5 [97,98,99] { data:=#[97,98,99] } rfl (by intro z hz;simp at hz;omega) (by intro j hj;have hj':j<3:=hj;match j,hj' with | 0,_=>rfl | 1,_=>rfl | 2,_=>rfl)
     have hbc:=below_conv w5 { data:=#[97,98,99] }
     have hobc:OVB (Lib.bytesWorld w5 5 { data:=#[97,98,99] }) w.heap.size (.slice la ls.length lc) ls:=HOB5.out.below hbc
     have HC:Hid (Byt (Lib.bytesWorld w5 5 { data:=#[97,98,99] }) (some ⟨w5.heap.size,0,none⟩) [97,98,99]∧Below w5.heap.size w5 (Lib.bytesWorld w5 5 { data:=#[97,98,99] })∧OVB (Lib.bytesWorld w5 5 { data:=#[97,98,99] }) w.heap.size (.slice la ls.length lc) ls):=⟨hcv,hbc,hobc⟩
     clear hcv hbc hobc
     go_wp2_with (at_builtin;(refine wpList_append_byt rfl (.tmp 29) (.tmp 35) rfl w.heap.size (.slice la ls.length lc) ls rfl HC.out.2.2 (some ⟨w5.heap.size,0,none⟩) _ [97,98,99] rfl HC.out.1 (by simp;omega) (by have:=HO5.out.size;have:=HC.out.2.1.size;omega) ?_);intro v4 w4 hown hgrow)
     obtain ⟨a4,c4,rfl⟩:=hown.form
     have hon:Only (fun b=>(Value.slice la ls.length lc).ownBlock=some b) w5 w4:=Only.grown (Only.ofBelow HC.out.2.1 nl) hgrow (fun b hb=>.inl hb)
     have HO4:Hid (Only (fun k=>k=R) w w4):=Only.grown (HO5.out.trans (Only.ofBelow HC.out.2.1 nl)) hgrow (fun b hb=>.inr (HOB5.out.blk hb))
     have HD4:Hid (Dr w0 w4 B R a bs cap):=HD5.out.other hon (fun hh=>by have:=HOB5.out.blk hh;omega) (fun b hh=>by have:=HOB5.out.blk hh;omega)
     have HOV4:Hid (OVB w4 w.heap.size (.slice a4 (ls++[97,98,99]).length c4) (ls++[97,98,99])):=hown
     have hl4:(ls++([97,98,99]:List Int)).length=ls.length+3:=by simp
     clear hown hgrow hon HC
     go_roundw
     case rel=>exact ⟨a4,c4,ls++[97,98,99],rfl,HOV4.out,by omega,HD4.out,HO4.out⟩
     case measure=>simp only [slLen];omega
    ·have hcv:=byt_of_conv w5 [97,98,99,100] { data:=#[97,98,99,100] } rfl (by intro z hz;simp at hz;omega) (by intro j hj;have hj':j<4:=hj;match j,hj' with | 0,_=>rfl | 1,_=>rfl | 2,_=>rfl | 3,_=>rfl)
     have hbc:=below_conv w5 { data:=#[97,98,99,100] }
     have hobc:OVB (Lib.bytesWorld w5 5 { data:=#[97,98,99,100] }) w.heap.size (.slice la ls.length lc) ls:=HOB5.out.below hbc
     have HC:Hid (Byt (Lib.bytesWorld w5 5 { data:=#[97,98,99,100] }) (some ⟨w5.heap.size,0,none⟩) [97,98,99,100]∧Below w5.heap.size w5 (Lib.bytesWorld w5 5 { data:=#[97,98,99,100] })∧OVB (Lib.bytesWorld w5 5 { data:=#[97,98,99,100] }) w.heap.size (.slice la ls.length lc) ls):=⟨hcv,hbc,hobc⟩
     clear hcv hbc hobc
     go_wp2_with (at_builtin;(refine wpList_append_byt rfl (.tmp 29) (.tmp 35) rfl w.heap.size (.slice la ls.length lc) ls rfl HC.out.2.2 (some ⟨w5.heap.size,0,none⟩) _ [97,98,99,100] rfl HC.out.1 (by simp;omega) (by have:=HO5.out.size;have:=HC.out.2.1.size;omega) ?_);intro v4 w4 hown hgrow)
     obtain ⟨a4,c4,rfl⟩:=hown.form
     have hon:Only (fun b=>(Value.slice la ls.length lc).ownBlock=some b) w5 w4:=Only.grown (Only.ofBelow HC.out.2.1 nl) hgrow (fun b hb=>.inl hb)
     have HO4:Hid (Only (fun k=>k=R) w w4):=Only.grown (HO5.out.trans (Only.ofBelow HC.out.2.1 nl)) hgrow (fun b hb=>.inr (HOB5.out.blk hb))
     have HD4:Hid (Dr w0 w4 B R a bs cap):=HD5.out.other hon (fun hh=>by have:=HOB5.out.blk hh;omega) (fun b hh=>by have:=HOB5.out.blk hh;omega)
     have HOV4:Hid (OVB w4 w.heap.size (.slice a4 (ls++[97,98,99,100]).length c4) (ls++[97,98,99,100])):=hown
     have hl4:(ls++([97,98,99,100]:List Int)).length=ls.length+4:=by simp
     clear hown hgrow hon HC
     go_roundw
     case rel=>exact ⟨a4,c4,ls++[97,98,99,100],rfl,HOV4.out,by omega,HD4.out,HO4.out⟩
     case measure=>simp only [slLen];omega
    ·have hcv:=byt_of_conv w5 [116,104,101,32] { data:=#[116,104,101,32] } rfl (by intro z hz;simp at hz;omega) (by intro j hj;have hj':j<4:=hj;match j,hj' with | 0,_=>rfl | 1,_=>rfl | 2,_=>rfl | 3,_=>rfl)
     have hbc:=below_conv w5 { data:=#[116,104,101,32] }
     have hobc:OVB (Lib.bytesWorld w5 5 { data:=#[116,104,101,32] }) w.heap.size (.slice la ls.length lc) ls:=HOB5.out.below hbc
     have HC:Hid (Byt (Lib.bytesWorld w5 5 { data:=#[116,104,101,32] }) (some ⟨w5.heap.size,0,none⟩) [116,104,101,32]∧Below w5.heap.size w5 (Lib.bytesWorld w5 5 { data:=#[116,104,101,32] })∧OVB (Lib.bytesWorld w5 5 { data:=#[116,104,101,32] }) w.heap.size (.slice la ls.length lc) ls):=⟨hcv,hbc,hobc⟩
     clear hcv hbc hobc
     go_wp2_with (at_builtin;(refine wpList_append_byt rfl (.tmp 29) (.tmp 35) rfl w.heap.size (.slice la ls.length lc) ls rfl HC.out.2.2 (some ⟨w5.heap.size,0,none⟩) _ [116,104,101,32] rfl HC.out.1 (by simp;omega) (by have:=HO5.out.size;have:=HC.out.2.1.size;omega) ?_);intro v4 w4 hown hgrow)
     obtain ⟨a4,c4,rfl⟩:=hown.form
     have hon:Only (fun b=>(Value.slice la ls.length lc).ownBlock=some b) w5 w4:=Only.grown (Only.ofBelow HC.out.2.1 nl) hgrow (fun b hb=>.inl hb)
     have HO4:Hid (Only (fun k=>k=R) w w4):=Only.grown (HO5.out.trans (Only.ofBelow HC.out.2.1 nl)) hgrow (fun b hb=>.inr (HOB5.out.blk hb))
     have HD4:Hid (Dr w0 w4 B R a bs cap):=HD5.out.other hon (fun hh=>by have:=HOB5.out.blk hh;omega) (fun b hh=>by have:=HOB5.out.blk hh;omega)
     have HOV4:Hid (OVB w4 w.heap.size (.slice a4 (ls++[116,104,101,32]).length c4) (ls++[116,104,101,32])):=hown
     have hl4:(ls++([116,104,101,32]:List Int)).length=ls.length+4:=by simp
     clear hown hgrow hon HC
     go_roundw
     case rel=>exact ⟨a4,c4,ls++[116,104,101,32],rfl,HOV4.out,by omega,HD4.out,HO4.out⟩
     case measure=>simp only [slLen];omega
    ·have hcv:=byt_of_conv w5 [120] { data:=#[120] } rfl (by intro z hz;simp at hz;omega) (by intro j hj;have hj':j<1:=hj;match j,hj' with | 0,_=>rfl)
     have hbc:=below_conv w5 { data:=#[120] }
     have hobc:OVB (Lib.bytesWorld w5 5 { data:=#[120] }) w.heap.size (.slice la ls.length lc) ls:=HOB5.out.below hbc
     have HC:Hid (Byt (Lib.bytesWorld w5 5 { data:=#[120] }) (some ⟨w5.heap.size,0,none⟩) [120]∧Below w5.heap.size w5 (Lib.bytesWorld w5 5 { data:=#[120] })∧OVB (Lib.bytesWorld w5 5 { data:=#[120] }) w.heap.size (.slice la ls.length lc) ls):=⟨hcv,hbc,hobc⟩
     clear hcv hbc hobc
     go_wp2_with (at_builtin;(refine wpList_append_byt rfl (.tmp 29) (.tmp 35) rfl w.heap.size (.slice la ls.length lc) ls rfl HC.out.2.2 (some ⟨w5.heap.size,0,none⟩) _ [120] rfl HC.out.1 (by simp;omega) (by have:=HO5.out.size;have:=HC.out.2.1.size;omega) ?_);intro v4 w4 hown hgrow)
     obtain ⟨a4,c4,rfl⟩:=hown.form
     have hon:Only (fun b=>(Value.slice la ls.length lc).ownBlock=some b) w5 w4:=Only.grown (Only.ofBelow HC.out.2.1 nl) hgrow (fun b hb=>.inl hb)
     have HO4:Hid (Only (fun k=>k=R) w w4):=Only.grown (HO5.out.trans (Only.ofBelow HC.out.2.1 nl)) hgrow (fun b hb=>.inr (HOB5.out.blk hb))
     have HD4:Hid (Dr w0 w4 B R a bs cap):=HD5.out.other hon (fun hh=>by have:=HOB5.out.blk hh;omega) (fun b hh=>by have:=HOB5.out.blk hh;omega)
     have HOV4:Hid (OVB w4 w.heap.size (.slice a4 (ls++[120]).length c4) (ls++[120])):=hown
     have hl4:(ls++([120]:List Int)).length=ls.length+1:=by simp
     clear hown hgrow hon HC
     go_roundw
     case rel=>exact ⟨a4,c4,ls++[120],rfl,HOV4.out,by omega,HD4.out,HO4.out⟩
     case measure=>simp only [slLen];omega
   ·go_wp2_with fail
    refine HD.out.byte.mono ?_
    rintro e w5 ⟨⟨y,hy1,hy2,rfl⟩,hd5,ho5⟩
    have HD5:Hid (Dr w0 w5 B R a bs cap):=hd5
    have HO5:Hid (Only (fun k=>k=R) w w5):=HO.out.trans ho5
    have HOB5:Hid (OVB w5 w.heap.size (.slice la ls.length lc) ls):=HOB.out.stay ho5 (fun b hb=>by omega)
    have hu8:IntKind.u8.wrap y=y:=IntWalk.u8_in _ (by omega)
    clear hd5 ho5 HD HO HOB
    go_wp2_with (at_builtin;(refine wpList_append_b1B rfl (.tmp 40) (.tmp 44) rfl w.heap.size (.slice la ls.length lc) ls rfl (HOB5.out.alloc _) w5.heap.size 1 (y) rfl (by simp) (by omega) (by omega) (by have:=HO5.out.size;simp;omega) ?_);intro v4 w4 hown hgrow)
    obtain ⟨a4,c4,rfl⟩:=hown.form
    have hon:Only (fun b=>(Value.slice la ls.length lc).ownBlock=some b) w5 w4:=Only.grown ((Only.refl _ _).alloc _) hgrow (fun b hb=>.inl hb)
    have HO4:Hid (Only (fun k=>k=R) w w4):=Only.grown (HO5.out.alloc _) hgrow (fun b hb=>.inr (HOB5.out.blk hb))
    have HD4:Hid (Dr w0 w4 B R a bs cap):=HD5.out.other hon (fun hh=>by have:=HOB5.out.blk hh;omega) (fun b hh=>by have:=HOB5.out.blk hh;omega)
    have HOV4:Hid (OVB w4 w.heap.size (.slice a4 (ls++[y]).length c4) (ls++[y])):=hown
    have hl4:(ls++[y]).length=ls.length+1:=by simp
    clear hown hgrow hon
    go_roundw
    case rel=>exact ⟨a4,c4,ls++[y],rfl,HOV4.out,by omega,HD4.out,HO4.out⟩
    case measure=>simp only [slLen];omega
   ·by_cases h4:4<ls.length
    ·have h4I:(4:Int)<(ls.length:Int):=by omega
     go_wp2_with fail
     refine (HD.out.once 3 (by omega) (by omega)).mono ?_
     rintro e w6 ⟨⟨b,rfl⟩,hd6,ho6⟩
     have HD6:Hid (Dr w0 w6 B R a bs cap):=hd6
     have HO6:Hid (Only (fun k=>k=R) w w6):=HO.out.trans ho6
     have HOB6:Hid (OVB w6 w.heap.size (.slice la ls.length lc) ls):=HOB.out.stay ho6 (fun b hb=>by omega)
     clear hd6 ho6 HD HO HOB
     cases b
     ·skip
      go_wp2_with fail
      refine (HD6.out.below 4 (by omega) (by omega)).mono ?_
      rintro e w5 ⟨⟨y,hy1,hy2,rfl⟩,hd5,ho5⟩
      have HD5:Hid (Dr w0 w5 B R a bs cap):=hd5
      have HO5:Hid (Only (fun k=>k=R) w w5):=HO6.out.trans ho5
      have HOB5:Hid (OVB w5 w.heap.size (.slice la ls.length lc) ls):=HOB6.out.stay ho5 (fun b hb=>by omega)
      have hu8:IntKind.u8.wrap y=y:=IntWalk.u8_in _ (by omega)
      clear hd5 ho5 HD6 HO6 HOB6
      go_wp2_with (at_builtin;(refine wpList_append_b1B rfl (.tmp 14) (.tmp 18) rfl w.heap.size (.slice la ls.length lc) ls rfl (HOB5.out.alloc _) w5.heap.size 1 (y) rfl (by simp) (by omega) (by omega) (by have:=HO5.out.size;simp;omega) ?_);intro v4 w4 hown hgrow)
      obtain ⟨a4,c4,rfl⟩:=hown.form
      have hon:Only (fun b=>(Value.slice la ls.length lc).ownBlock=some b) w5 w4:=Only.grown ((Only.refl _ _).alloc _) hgrow (fun b hb=>.inl hb)
      have HO4:Hid (Only (fun k=>k=R) w w4):=Only.grown (HO5.out.alloc _) hgrow (fun b hb=>.inr (HOB5.out.blk hb))
      have HD4:Hid (Dr w0 w4 B R a bs cap):=HD5.out.other hon (fun hh=>by have:=HOB5.out.blk hh;omega) (fun b hh=>by have:=HOB5.out.blk hh;omega)
      have HOV4:Hid (OVB w4 w.heap.size (.slice a4 (ls++[y]).length c4) (ls++[y])):=hown
      have hl4:(ls++[y]).length=ls.length+1:=by simp
      clear hown hgrow hon
      go_roundw
      case rel=>exact ⟨a4,c4,ls++[y],rfl,HOV4.out,by omega,HD4.out,HO4.out⟩
      case measure=>simp only [slLen];omega
     ·go_wp2_with fail
      refine (HD6.out.below ((ls.length:Int)-3) (by omega) (by omega)).mono ?_
      rintro e w5 ⟨⟨k0,hk1,hk2,rfl⟩,hd5,ho5⟩
      obtain ⟨k,rfl⟩:=Int.eq_ofNat_of_zero_le hk1
      have HD5:Hid (Dr w0 w5 B R a bs cap):=hd5
      have HO5:Hid (Only (fun k=>k=R) w w5):=HO6.out.trans ho5
      have hob5:OVB w5 w.heap.size (.slice la ls.length lc) ls:=HOB6.out.stay ho5 (fun b hb=>by omega)
      obtain ⟨q1,q2,-,q4⟩:=hob5.cap
      obtain ⟨g,rfl,hg⟩:=q4 (by omega)
      have HOB5:Hid (OVB w5 w.heap.size (.slice (some ⟨g,0,none⟩) ls.length lc) ls):=hob5
      have hk4:k+4≤ls.length:=by omega
      have hkc:(k:Int)+4≤(lc:Int):=by omega
      have hkn:¬lc=k:=by omega
      have HB5:Hid (Byt w5 (some ⟨g,k,none⟩) [ls.getD k 0,ls.getD (k+1) 0,ls.getD (k+2) 0,ls.getD (k+3) 0]):=by
       have hby:=hob5.byt
       obtain ⟨b',o',he,hb',hc'⟩:=hby.2 (by omega)
       obtain ⟨rfl,rfl⟩:g=b'∧0=o':=by simpa using he
       refine ⟨fun z hz=>?_,fun _=>⟨g,k,rfl,hb',fun i hi=>?_⟩⟩
       ·have hm:∀ j,j<ls.length→0≤ls.getD j 0∧ls.getD j 0≤255:=fun j hj=>by
         rw [List.getD_eq_getElem?_getD,List.getElem?_eq_getElem hj]
         exact hby.1 _ (List.getElem_mem hj)
        simp only [List.mem_cons,List.not_mem_nil,or_false] at hz
        rcases hz with rfl | rfl | rfl | rfl
        ·exact hm k (by omega)
        ·exact hm (k+1) (by omega)
        ·exact hm (k+2) (by omega)
        ·exact hm (k+3) (by omega)
       ·simp only [List.length_cons,List.length_nil] at hi
        have h9:=hc' (k+i) (by omega)
        rw [Nat.zero_add] at h9
        rw [h9]
        obtain rfl | rfl | rfl | rfl:i=0∨i=1∨i=2∨i=3:=by omega
        ·rfl
        ·rfl
        ·rfl
        ·rfl
      clear hd5 ho5 HD6 HO6 HOB6 hob5
      generalize ls.getD k 0=z0 at *
      generalize ls.getD (k+1) 0=z1 at *
      generalize ls.getD (k+2) 0=z2 at *
      generalize ls.getD (k+3) 0=z3 at *
      go_wp2_with (at_builtin;(refine wpList_append_byt rfl (.tmp 63) (.tmp 68) rfl w.heap.size (.slice (some ⟨g,0,none⟩) ls.length lc) ls rfl HOB5.out (some ⟨g,k,none⟩) (lc-k) [z0,z1,z2,z3] (by simp [Act.eval,Addr.add]) HB5.out (by simp;omega) (by have:=HO5.out.size;omega) ?_);intro v4 w4 hown hgrow)
      obtain ⟨a4,c4,rfl⟩:=hown.form
      have hon:Only (fun b=>(Value.slice (some ⟨g,0,none⟩) ls.length lc).ownBlock=some b) w5 w4:=Only.grown (Only.refl _ _) hgrow (fun b hb=>.inl hb)
      have HO4:Hid (Only (fun k=>k=R) w w4):=Only.grown HO5.out hgrow (fun b hb=>.inr (HOB5.out.blk hb))
      have HD4:Hid (Dr w0 w4 B R a bs cap):=HD5.out.other hon (fun hh=>by have:=HOB5.out.blk hh;omega) (fun b hh=>by have:=HOB5.out.blk hh;omega)
      have HOV4:Hid (OVB w4 w.heap.size (.slice a4 (ls++[z0,z1,z2,z3]).length c4) (ls++[z0,z1,z2,z3])):=hown
      have hl4:(ls++[z0,z1,z2,z3]).length=ls.length+4:=by simp
      clear hown hgrow hon HB5
      go_roundw
      case rel=>exact ⟨a4,c4,ls++[z0,z1,z2,z3],rfl,HOV4.out,by omega,HD4.out,HO4.out⟩
      case measure=>simp only [slLen];omega
    ·have h4I:¬(4:Int)<(ls.length:Int):=by omega
     go_wp2_with fail
     refine (HD.out.below 4 (by omega) (by omega)).mono ?_
     rintro e w5 ⟨⟨y,hy1,hy2,rfl⟩,hd5,ho5⟩
     have HD5:Hid (Dr w0 w5 B R a bs cap):=hd5
     have HO5:Hid (Only (fun k=>k=R) w w5):=HO.out.trans ho5
     have HOB5:Hid (OVB w5 w.heap.size (.slice la ls.length lc) ls):=HOB.out.stay ho5 (fun b hb=>by omega)
     have hu8:IntKind.u8.wrap y=y:=IntWalk.u8_in _ (by omega)
     clear hd5 ho5 HD HO HOB
     go_wp2_with (at_builtin;(refine wpList_append_b1B rfl (.tmp 14) (.tmp 18) rfl w.heap.size (.slice la ls.length lc) ls rfl (HOB5.out.alloc _) w5.heap.size 1 (y) rfl (by simp) (by omega) (by omega) (by have:=HO5.out.size;simp;omega) ?_);intro v4 w4 hown hgrow)
     obtain ⟨a4,c4,rfl⟩:=hown.form
     have hon:Only (fun b=>(Value.slice la ls.length lc).ownBlock=some b) w5 w4:=Only.grown ((Only.refl _ _).alloc _) hgrow (fun b hb=>.inl hb)
     have HO4:Hid (Only (fun k=>k=R) w w4):=Only.grown (HO5.out.alloc _) hgrow (fun b hb=>.inr (HOB5.out.blk hb))
     have HD4:Hid (Dr w0 w4 B R a bs cap):=HD5.out.other hon (fun hh=>by have:=HOB5.out.blk hh;omega) (fun b hh=>by have:=HOB5.out.blk hh;omega)
     have HOV4:Hid (OVB w4 w.heap.size (.slice a4 (ls++[y]).length c4) (ls++[y])):=hown
     have hl4:(ls++[y]).length=ls.length+1:=by simp
     clear hown hgrow hon
     go_roundw
     case rel=>exact ⟨a4,c4,ls++[y],rfl,HOV4.out,by omega,HD4.out,HO4.out⟩
     case measure=>simp only [slLen];omega
   ·skip
    go_wp2_with fail
    refine (HD.out.below 4 (by omega) (by omega)).mono ?_
    rintro e w5 ⟨⟨y,hy1,hy2,rfl⟩,hd5,ho5⟩
    have HD5:Hid (Dr w0 w5 B R a bs cap):=hd5
    have HO5:Hid (Only (fun k=>k=R) w w5):=HO.out.trans ho5
    have HOB5:Hid (OVB w5 w.heap.size (.slice la ls.length lc) ls):=HOB.out.stay ho5 (fun b hb=>by omega)
    have hu8:IntKind.u8.wrap y=y:=IntWalk.u8_in _ (by omega)
    clear hd5 ho5 HD HO HOB
    go_wp2_with (at_builtin;(refine wpList_append_b1B rfl (.tmp 14) (.tmp 18) rfl w.heap.size (.slice la ls.length lc) ls rfl (HOB5.out.alloc _) w5.heap.size 1 (y) rfl (by simp) (by omega) (by omega) (by have:=HO5.out.size;simp;omega) ?_);intro v4 w4 hown hgrow)
    obtain ⟨a4,c4,rfl⟩:=hown.form
    have hon:Only (fun b=>(Value.slice la ls.length lc).ownBlock=some b) w5 w4:=Only.grown ((Only.refl _ _).alloc _) hgrow (fun b hb=>.inl hb)
    have HO4:Hid (Only (fun k=>k=R) w w4):=Only.grown (HO5.out.alloc _) hgrow (fun b hb=>.inr (HOB5.out.blk hb))
    have HD4:Hid (Dr w0 w4 B R a bs cap):=HD5.out.other hon (fun hh=>by have:=HOB5.out.blk hh;omega) (fun b hh=>by have:=HOB5.out.blk hh;omega)
    have HOV4:Hid (OVB w4 w.heap.size (.slice a4 (ls++[y]).length c4) (ls++[y])):=hown
    have hl4:(ls++[y]).length=ls.length+1:=by simp
    clear hown hgrow hon
    go_roundw
    case rel=>exact ⟨a4,c4,ls++[y],rfl,HOV4.out,by omega,HD4.out,HO4.out⟩
    case measure=>simp only [slLen];omega
  ·have hnl:n≤ls.length:=by omega
   have hltI:¬(ls.length:Int)<(n:Int):=by omega
   have hnc:n≤lc:=by have:=hcap.1;omega
   have HFR:=HOB.out.front n hnl
   have HF:Hid (OVB wr w.heap.size (.slice la n lc) (ls.take n)∧(ls.take n).length=n):=⟨HFR,by rw [List.length_take];omega⟩
   clear HFR
   go_wp2
   go_ret
   exact ⟨la,lc,rfl,ls.take n,HF.out.2,HF.out.1,HD.out,HO.out⟩
end Go.Proofs.YtfeokafkhnbdiaaGreatDoor
namespace Go.Proofs.YtfeokafkhnbdiaaGreatDoor
open Go.ChangeShapes Go.WideShapes Go.ChangeAt Go.RowKit Go.Joins
set_option linter.unusedVariables false
theorem Tryz.own :ownKnob Tryz.prog.godebug=none:=by kernel_rfl
theorem Tryz.laidOut :laidOutB Tryz.prog=true:=by kernel_rfl
theorem byt_of_trod {H:Type} {enc:TypeId × Value→H} {W:World} {fuel:Nat} {v:Value} {y:DataW H × List MemPlace}
  (h:DataW.trod enc Tryz.prog W 0 (fun _=>true) true fuel 22 [v]=some y) :
  ∃ (a:Option Addr) (zs:List Int) (cap:Nat),v=.slice a zs.length cap∧Byt W a zs∧zs.length≤maxLen:=by
 rcases open_ints Tryz.underlying22 Tryz.underlying5 (by kernel_rfl) h with ⟨hcs,_⟩ | ⟨x,l,c,zs,hcs,_,hl,hm,hz,_,hcell,hwz⟩
 ·simp at hcs
  subst hcs
  exact ⟨.none,[],0,rfl,⟨by simp,by simp⟩,by simp [maxLen]⟩
 ·simp at hcs
  subst hcs
  simp only [if_true] at hz
  have hlen:(zs.take l).length=l:=by rw [List.length_take];omega
  refine ⟨some x,zs.take l,c,by rw [hlen],⟨?_,?_⟩,by rw [hlen];omega⟩
  ·intro z hz'
   have:=hwz z (List.mem_of_mem_take hz')
   simp [Lit.wf] at this
   exact bounds_u8 (hwz z (List.mem_of_mem_take hz'))
  ·intro hp
   rw [hlen] at hp
   obtain ⟨b,off,spot⟩:=x
   have hc:=hcell 0 (by omega)
   have hspot:spot=.none:=by simpa [Addr.add] using World.cell?_spot hc
   subst hspot
   refine ⟨b,off,rfl,?_,fun i hi=>?_⟩
   ·have:=World.block_lt_of_cell? _ _ hc
    simpa [Addr.add] using this
   ·rw [hlen] at hi
    have:=hcell i (by omega)
    have hadd:(⟨b,off,.none⟩:Addr).add i=⟨b,off+i,.none⟩:=by unfold Addr.add;split <;> simp_all
    rw [hadd] at this
    rw [show (zs.take l).getD i 0=zs.getD i 0 from by simp [hi]]
    exact this
theorem Tryz.cellsES :Tryz.prog.cellsOf 272=1:=by kernel_rfl
theorem Tryz.cellsStr :Tryz.prog.cellsOf 9=1:=by kernel_rfl
theorem Tryz.star : "*" ++ "errors.errorString" = "*errors.errorString" := by decide
theorem Tryz.rowES (u : TypeId) (h : Tryz.prog.typeName? 3 u = some "*errors.errorString") : u = 246 :=
 typeName_ptr_named (nm := "errors.errorString") (by rw [Tryz.star]; kernel_rfl) (by kernel_rfl) (by decide) u (by rw [Tryz.star]; exact h)
theorem sentinel {n : String} {text : List UInt8} {r : List (String × DataW Unit)} {W : World} {g : Nat} (h : laidMet Tryz.prog ((n, .iface "*errors.errorString" (.ptr (.agg [.lit (.string text)]))) :: r) W)
  (hg:Tryz.prog.globalNamed n=some g) (ht:(Tryz.prog.globals[g]?).map (·.type)=some 70) :
  ∃ a:Addr,W.var? Tryz.prog n=some #[.iface 246 (.pointer (some a))]∧W.cell? ⟨g,0,.none⟩=some (.iface 246 (.pointer (some a))):=by
 obtain ⟨a0,s0,hv0,hc0,hs0,hz0⟩:=laid_sentinel h hg ht Tryz.underlying70 Tryz.rowES Tryz.underlying246 Tryz.underlying272 rfl rfl Tryz.underlying9 Tryz.cellsES Tryz.cellsStr
 exact ⟨a0,hv0,by simpa using World.var?_cell hg hv0 0⟩
theorem vars_nil {H:Type} (enc:TypeId × Value→H) {P:Program} {W:World} (sp:Nat→Bool):DataW.TrodVars enc P W sp [] [] []:=rfl
theorem vars_consC {H:Type} (enc:TypeId × Value→H) {P:Program} {W:World} {n:String} {g:Nat} {t:TypeId} {ms:Array (String × TypeId)} {x:Value} {ns:List String} {ds:List (DataW H)} {ps:List MemPlace} {sp:Nat→Bool}
  (hg:P.globalNamed n=some g) (ht:(P.globals[g]?).map (·.type)=some t) (hi:P.underlying t=some (.interface ms)) (h:W.var? P n=some #[x]) (ix:IsIface x) (hr:DataW.TrodVars enc P W sp ns ds ps) :
  DataW.TrodVars enc P W sp (n :: ns) (tok enc x :: ds) (.cell g 0 :: ps):=⟨g,t,#[x],1,[],ps,hg,ht,h,trod_held hi ix 0,hr,rfl⟩
end Go.Proofs.YtfeokafkhnbdiaaGreatDoor
