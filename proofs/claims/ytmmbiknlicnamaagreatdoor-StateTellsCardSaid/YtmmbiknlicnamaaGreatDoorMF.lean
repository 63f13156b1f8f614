import Derived.Test.YtmmbiknlicnamaaGreatDoorMOa
import Derived.Test.YtmmbiknlicnamaaGreatDoorRows
import Derived.OpenShut
import Derived.JoinedCond
import Derived.JoinedOf
import Derived.SizedLaws
import Derived.Carry
import Derived.ChangeSlices
import Derived.ChangeSame
import Derived.Deep.DeepHandedRow
import Derived.Deep.Slices
import Derived.Lib.SmallJoins
set_option maxHeartbeats 8000000
set_option linter.unusedVariables false
set_option linter.unusedSimpArgs false
set_option linter.constructorNameAsVariable false
namespace Go.Proofs.YtmmbiknlicnamaaGreatDoor.Od
open Go.ChangeShapes Go.WideShapes Go.ChangeAt Go.RowKit Js Lex
theorem own : ownKnob Tryz.prog.godebug = none := by kernel_rfl
theorem laidOut : laidOutB Tryz.prog = true := by kernel_rfl
theorem cellsInt : Tryz.prog.cellsOf 3 = 1 := by kernel_rfl
theorem cellsBool : Tryz.prog.cellsOf 4 = 1 := by kernel_rfl
theorem cellsStr : Tryz.prog.cellsOf 9 = 1 := by kernel_rfl
theorem reach_eq : reachBytes = 140737488351232 := by decide +kernel
theorem i64B_of' {n : Int} (h : (Lit.int .i64 n).wf = true) : i64B n := bounds_i64 h
def Wt {H : Type} (t : TypeId) (d : DataW H) : Prop := ∀ n ∈ d.weights Tryz.prog t,n ≤ 140737488351232
theorem wt_of {H : Type} {ts : List TypeId} {ds : List (DataW H)} (h : (DataW.weightsEach Tryz.prog ts ds).all (· ≤ reachBytes) = true) {j : Nat} {t : TypeId} {d : DataW H} (ht : ts[j]? = some t) (hd : ds[j]? = some d) : Wt t d := fun n hn => by
 have := List.all_eq_true.1 h n (DataW.weights_mem_each ht hd n hn)
 rw [← reach_eq]
 simpa using this
theorem wt_part {H : Type} {t : TypeId} {fs : Array Field} {parts : List (DataW H)} (hu : Tryz.prog.underlying t = some (.struct fs)) (h : Wt t (.agg parts)) {j : Nat} {tj : TypeId} {d : DataW H} (ht : (fs.toList.map (·.type))[j]? = some tj) (hd : parts[j]? = some d) : Wt tj d := fun n hn => by
 unfold Wt at h
 rw [DataW.weights,hu] at h
 exact h n (DataW.weights_mem_each ht hd n hn)
theorem wt_string {H : Type} {t : TypeId} {bytes : List UInt8} (h : Wt (H := H) t (.lit (.string bytes))) : bytes.length ≤ 140737488351232 := by
 unfold Wt at h
 rw [DataW.weights] at h
 exact h _ (List.mem_cons_self ..)
structure Known (tO tN tE tS tY : TypeId) (f0 f1 f2 f3 f4 f5 g0 g1 g2 k0 k1 k2 : Field) : Prop where
 o : Tryz.prog.underlying tO = some (.struct #[f0,f1,f2,f3,f4,f5])
 n : Tryz.prog.underlying tN = some (.slice tS)
 e : Tryz.prog.underlying tE = some (.slice tY)
 s : Tryz.prog.underlying tS = some (.struct #[g0,g1,g2])
 y : Tryz.prog.underlying tY = some (.struct #[k0,k1,k2])
 types : [f0.type,f1.type,f2.type,f3.type,f4.type,f5.type] = [3,9,3,3,tN,tE]
 places : [f0.offset,f1.offset,f2.offset,f3.offset,f4.offset,f5.offset] = [0,1,2,3,4,5]
 gtypes : [g0.type,g1.type,g2.type] = [3,3,4]
 gplaces : [g0.offset,g1.offset,g2.offset] = [0,1,2]
 ktypes : [k0.type,k1.type,k2.type] = [3,3,4]
 kplaces : [k0.offset,k1.offset,k2.offset] = [0,1,2]
 co : Tryz.prog.cellsOf tO = 6
 cn : Tryz.prog.cellsOf tN = 1
 ce : Tryz.prog.cellsOf tE = 1
 cs : Tryz.prog.cellsOf tS = 3
 cy : Tryz.prog.cellsOf tY = 3
 bs : Tryz.prog.bytesOf tS = 24
 by_ : Tryz.prog.bytesOf tY = 24
end Go.Proofs.YtmmbiknlicnamaaGreatDoor.Od
