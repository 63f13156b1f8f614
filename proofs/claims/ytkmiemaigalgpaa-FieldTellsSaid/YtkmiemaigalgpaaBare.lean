import Derived.Test.YtkmiemaigalgpaaMx
/- A region in the order of its text, walked without the lists of what each operation waits for: they count for nothing there, and are long. -/
set_option linter.unusedVariables false
set_option linter.unusedSimpArgs false
namespace Go.Proofs.Ytkmiemaigalgpaa.Js
open Go.RowKit

def bare (o : Oper) : Oper := { o with after := #[] }
theorem bare_wp (P : Program) (o : Oper) : Oper.wp P (bare o) = Oper.wp P o := rfl
theorem bare_asks (P : Program) (o : Oper) : Oper.asks P (bare o) = Oper.asks P o := rfl
theorem bare_yielded (l : List Oper) (tmps : Array Value) : yielded (l.map bare).toArray tmps = yielded l.toArray tmps := by
  funext j
  unfold yielded
  have h : (((l.map bare).toArray[j]?).bind (·.dst)) = ((l.toArray[j]?).bind (·.dst)) := by
    simp only [List.getElem?_toArray, List.getElem?_map]
    cases l[j]? <;> rfl
  rw [h]
theorem bare_wanted (o : Oper) (y : Nat → Option Bool) : Region.wanted (bare o) y = Region.wanted o y := rfl
theorem wpList_bare {P : Program} {l0 : List Oper} {Q : Exit → Act → World → Prop} : ∀ (l : List Oper), wpList P (l0.map bare).toArray Q (l.map bare) = wpList P l0.toArray Q l
  | [] => rfl
  | o :: rest => by
    funext a w
    rw [List.map_cons, wpList, wpList, wpList_bare rest, bare_yielded, bare_wanted, bare_wp, bare_asks]
    rfl
theorem wp_region_bare {P : Program} {Q : Exit → Act → World → Prop} {a : Act} {w : World} {id : Nat} {l : List Oper} (h : wpList P (l.map bare).toArray Q (l.map bare) a w) : (Code.region id l.toArray false).wp P Q a w :=
  wp_region_lit (by rw [wpList_bare] at h; exact h)
end Go.Proofs.Ytkmiemaigalgpaa.Js
