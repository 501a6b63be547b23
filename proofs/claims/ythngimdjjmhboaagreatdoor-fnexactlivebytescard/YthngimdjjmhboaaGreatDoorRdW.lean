/-
  RawRead, both.
-/
import Derived.Test.YthngimdjjmhboaaGreatDoorDkI1
import Derived.Test.YthngimdjjmhboaaGreatDoorClone
namespace Go.Proofs.YthngimdjjmhboaaGreatDoor
open Go.RowKit
set_option linter.unusedVariables false

def lastU (es:List El) (x:Int):Nat→Option El
 | 0=>none
 | k+1=>if (es.getD k de).n=x then some (es.getD k de) else lastU es x k
theorem lastU_ct {es fs:List El} (h:fs.map El.ct=es.map El.ct) (x:Int) (k:Nat):(lastU fs x k).map El.ct=(lastU es x k).map El.ct:=by
 induction k with
 | zero=>rfl
 | succ k ih=>
  have h1:=ctE_get h k
  have h2:(fs.getD k de).n=(es.getD k de).n:=congrArg Prod.fst h1
  simp only [lastU,h2]
  split
  ·simp only [Option.map_some,h1]
  ·exact ih
theorem lastU_mem {es:List El} {x:Int} {k:Nat} {e:El} (h:lastU es x k=some e) (hk:k≤es.length):e ∈ es:=by
 induction k with
 | zero=>cases h
 | succ k ih=>
  simp only [lastU] at h
  split at h
  ·cases h;exact getD_memE (by omega)
  ·exact ih h (by omega)
def rdE (ss ps:List El) (x:Int):El:=(lastU ps x ps.length).getD (ss.getD x.toNat de)
theorem rdE_ct {ss ps ts qs:List El} (h1:ts.map El.ct=ss.map El.ct) (h2:qs.map El.ct=ps.map El.ct) (x:Int):(rdE ts qs x).ls=(rdE ss ps x).ls:=by
 have h3:=lastU_ct h2 x ps.length
 have h4:=ctE_get h1 x.toNat
 unfold rdE
 rw [len_ctE h2]
 cases ha:lastU qs x ps.length with
 | none=>
  rw [ha] at h3
  cases hb:lastU ps x ps.length with
  | none=>exact congrArg Prod.snd h4
  | some e=>rw [hb] at h3;simp at h3
 | some e=>
  rw [ha] at h3
  cases hb:lastU ps x ps.length with
  | none=>rw [hb] at h3;simp at h3
  | some e2=>
   rw [hb] at h3
   simp only [Option.map_some,Option.some.injEq] at h3
   exact congrArg Prod.snd h3

def rdB (ss ps:List El) (x:Int):Bool:=rok ss ps && decide (0≤x∧x<(ss.length:Int))
def rdL (ss ps:List El) (x:Int):List Int:=if rdB ss ps x=true then (rdE ss ps x).ls else []
theorem rd_yes {ss ps:List El} {x:Nat} (h:rok ss ps=true) (hx:x<ss.length):rdB ss ps x=true∧rdL ss ps x=(rdE ss ps x).ls:=by
 have h3:rdB ss ps x=true:=by unfold rdB;rw [h,decide_eq_true (by omega)];rfl
 exact ⟨h3,by unfold rdL;rw [if_pos h3]⟩
theorem rd_no {ss ps:List El} {x:Int} (h:¬(rok ss ps=true∧0≤x∧x<(ss.length:Int))):rdB ss ps x=false∧rdL ss ps x=[]:=by
 have h3:rdB ss ps x=false:=by
  unfold rdB
  cases hr:rok ss ps with
  | false=>rfl
  | true=>rw [decide_eq_false (fun h2=>h ⟨hr,h2⟩)];rfl
 exact ⟨h3,by unfold rdL;rw [h3];rfl⟩
theorem rdE_byt {w:World} {sa pa:Option Addr} {ss ps:List El} {x:Nat} (h:RawI w sa pa ss ps) (hx:x<ss.length):Byt w (rdE ss ps x).a (rdE ss ps x).ls:=by
 unfold rdE
 cases ha:lastU ps x ps.length with
 | none=>simp only [Option.getD_none,Int.toNat_natCast];exact (h.1.at x hx).2
 | some e=>exact (h.2.1 e (lastU_mem ha (Nat.le_refl _))).2
theorem rdE_len {ss ps:List El} {x:Nat} (h:Rok ss ps) (hx:x<ss.length):(rdE ss ps x).ls.length=256:=by
 unfold rdE
 cases ha:lastU ps x ps.length with
 | none=>simp only [Option.getD_none,Int.toNat_natCast];exact h.2.2.2.1 x hx
 | some e=>
  obtain ⟨i,hi,he⟩:=memE_get (lastU_mem ha (Nat.le_refl _))
  have:=(h.2.2.2.2 i hi).2.2
  rw [he] at this
  exact this
end Go.Proofs.YthngimdjjmhboaaGreatDoor
