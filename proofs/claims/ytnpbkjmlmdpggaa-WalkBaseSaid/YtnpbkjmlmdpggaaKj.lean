import Derived.Test.YtnpbkjmlmdpggaaChecked
import Derived.WalkKit
import Derived.BigCall
import Derived.Lib.Hide
import Derived.Below
import Derived.ProofKit
import Derived.Deep.QuietTactic
import Derived.RegionTactic
import Derived.Laws.DeepStrings4
import Derived.Deep.AppendLies
import Derived.Laws.MakeOwn
import Derived.Lib.QuietBelow
import Derived.BigRegion
import Derived.BigQuiet
import Derived.Laws.OwnMore
import Derived.Deep.DeepCutAuto
import Derived.Deep.CutRange
import Derived.Deep.CutBlock
import Derived.Deep.LoopGhost
import Derived.Outline
/- What layer 8's texts use of elder layers' (for a seat that has no json): cut out by gen_light.py. -/
set_option linter.unusedVariables false
set_option linter.unusedSimpArgs false
namespace Go.Proofs.Ytnpbkjmlmdpggaa.Lex
open Go.RowKit
def Ret (v : Value) (w : World) (e : Ending) (w' : World) : Prop := e = .returned v ∧ Below w.heap.size w w'
theorem two_new (w : World) (o1 o2 : Obj) : ((w.alloc o1).alloc o2).heap[w.heap.size + 1]? = some o2 := by simpa using heap_alloc_new (w.alloc o1) o2
theorem two_old (w : World) (o1 o2 : Obj) : ((w.alloc o1).alloc o2).heap[w.heap.size]? = some o1 := by
  rw [Below.heap_alloc _ _ _ (by simp)]; exact heap_alloc_new w o1
theorem bs_size (F : List UInt8) : (⟨F.toArray⟩ : ByteArray).size = F.length := List.size_toArray
end Go.Proofs.Ytnpbkjmlmdpggaa.Lex
namespace Go.Proofs.Ytnpbkjmlmdpggaa.Own
open Go.RowKit
theorem block_lt {w : World} {g : Nat} {o : Obj} (h : w.heap[g]? = some o) : g < w.heap.size := by
  rcases Nat.lt_or_ge g w.heap.size with h' | h'
  · exact h'
  · rw [Array.getElem?_eq_none h'] at h; cases h
end Go.Proofs.Ytnpbkjmlmdpggaa.Own
namespace Go.Proofs.Ytnpbkjmlmdpggaa.Quo
open Go.RowKit
theorem ret_bool {a b : Bool} (h : a = b) : Ending.returned (.bool a) = .returned (.bool b) := by rw [h]
theorem ret_int {k : IntKind} {a b : Int} (h : a = b) : Ending.returned (.int k a) = .returned (.int k b) := by rw [h]
end Go.Proofs.Ytnpbkjmlmdpggaa.Quo
namespace Go.Proofs.Ytnpbkjmlmdpggaa.Js
open Go.RowKit Lex
def i64B (n : Int) : Prop := -9223372036854775808 ≤ n ∧ n ≤ 9223372036854775807
def aggC : Value → List Value
  | .agg a => a.toList
  | _ => []
def LiesAt (w : World) (b off : Nat) (u : Value) : Prop := ∀ i c, (aggC u)[i]? = some c → w.cell? ⟨b, off + i, none⟩ = some c
theorem LiesAt.keep {w w' : World} {b off : Nat} {u : Value} (h : LiesAt w b off u) (hk : w'.heap[b]? = w.heap[b]?) : LiesAt w' b off u :=
  fun i c hc => (World.cell?_of_block (w := w) (a := ⟨b, off + i, none⟩) hk).trans (h i c hc)
def Any : Nat → Prop := fun _ => True
theorem drop_getD0 {α : Type} {l : List α} {q : Nat} (z : α) (h : q < l.length) : l.drop q = l.getD q z :: l.drop (q + 1) := by
  rw [List.drop_eq_getElem_cons h, List.getD_eq_getElem?_getD, List.getElem?_eq_getElem h]
  rfl
theorem below_drewN {B : Nat} {a w : World} (h : Below B a w) (n : Nat) : Below B a (w.drewN n) := h.trans ⟨rfl, rfl, rfl, Nat.le_refl _, fun _ _ => rfl⟩
theorem belowOne (w : World) (o : Obj) : Below w.heap.size w (w.alloc o) := (Below.refl _ _).alloc (Nat.le_refl _) _
theorem belowTwo (w : World) (o1 o2 : Obj) : Below w.heap.size w ((w.alloc o1).alloc o2) := ((Below.refl _ _).alloc (Nat.le_refl _) _).alloc (by simp) _
theorem belowThree (w : World) (o1 o2 o3 : Obj) : Below w.heap.size w (((w.alloc o1).alloc o2).alloc o3) := (((Below.refl _ _).alloc (Nat.le_refl _) _).alloc (by simp) _).alloc (by simp; omega) _
theorem free_of {w : World} {b : Nat} {cs : Array Value} {T : TypeId} (h : w.heap[b]? = some (.cells cs T (0, 0))) (i : Nat) : w.frozen? ⟨b, i, none⟩ = false := by
  simp [World.frozen?, h]
theorem own_slice {w : World} {base e s n : Nat} {v : Value} {xs : List Value} (h : w.ownsRow base e s v n xs) : ∃ ao c, v = .slice ao n c := by
  rcases h.2 with ⟨rfl, hn⟩ | ⟨g, cp, cur, hv, _⟩
  · exact ⟨none, 0, by rw [hn]⟩
  · exact ⟨_, _, hv⟩
end Go.Proofs.Ytnpbkjmlmdpggaa.Js
