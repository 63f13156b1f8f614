import Derived.Test.YtkmiemaigalgpaaFm
import Derived.Deep.DeepCutAuto
import Derived.Deep.CutRange
/- The walk of the law FieldMissing: it answers true. -/
set_option linter.unusedVariables false
set_option linter.unusedSimpArgs false
namespace Go.Proofs.Ytkmiemaigalgpaa.Js
open Go.RowKit Lex

theorem SOwn.below {w : World} {base : Nat} {fs : List Fd} {sv : Value} {a b : World} (h : SOwn w base fs sv a) (hb : Below a.heap.size a b) : SOwn w base fs sv b := by
  obtain ⟨h1, h2, h3⟩ := h
  refine ⟨h1.trans (hb.mono h1.size), h2, h3.1, ?_⟩
  rcases h3.2 with e | ⟨g, cp, cur, hv, hbg, hgg, hr⟩
  · exact .inl e
  · exact .inr ⟨g, cp, cur, hv, hbg, (hb.block g (Own.block_lt hgg)).trans hgg, hr⟩

theorem app_noneF (an : Option Addr) (cn : Nat) (ty : TypeId) (w : World) : (Builtin.append_ #[28, 28] ty #[.slice none 0 0, .slice an 0 cn]).run Try.prog w = .ok (.slice none 0 0) w := by
  obtain ⟨i1, hi, hz3, hx0, hx1⟩ := info_parts field_info
  cases an <;> simp [Builtin.append_, run_underlying Try.underlying28, sizeOf, typeInfo, zeroValue, hi, hz3, hx0, hx1, Builtin.lenOf, Builtin.firstCells, loadCells, loadCellsFrom]
theorem jE_any {S : Nat → Prop} {w : World} (an : Option Addr) (cn : Nat) (ai : Option Addr) (ci : Nat) : JAt S w 1 (.agg #[.int .i64 7, .int .i64 0, .int .i64 0, .string ⟨#[]⟩, .slice an 0 cn, .slice ai 0 ci]) jE :=
  ⟨.slice an 0 cn, ai, ci, rfl, ⟨by decide, by decide⟩, ⟨by decide, by decide⟩, ⟨by decide, by decide⟩, by unfold txtB; simp, ⟨an, cn, rfl, by simp, by simp, fun x hx => by simp at hx, fun h => by simp at h⟩, by simp, by simp, fun h => by simp at h⟩
theorem jE_form {S : Nat → Prop} {w : World} {d : Nat} {k m e : Int} {t : ByteArray} {an : Option Addr} {nn cn : Nat} {ai : Option Addr} {ni ci : Nat} (h : JAt S w d (.agg #[.int .i64 k, .int .i64 m, .int .i64 e, .string t, .slice an nn cn, .slice ai ni ci]) jE) : k = 7 ∧ m = 0 ∧ e = 0 ∧ t = ⟨#[]⟩ ∧ nn = 0 ∧ ni = 0 := by
  obtain ⟨d', an', cn', ai', ci', _, he, _⟩ := h.open_
  simp at he
  obtain ⟨rfl, rfl, rfl, rfl, ⟨_, rfl, _⟩, _, rfl, _⟩ := he
  exact ⟨rfl, rfl, rfl, rfl, rfl, rfl⟩
theorem make_nil (w : World) : Calls Try.prog 5 #[.slice none 0 0, .slice none 0 0] w (CRet w 1 jE) := make5_any Any Any 0 w none 0 none 0 [] [] strs_none (by simp) (by simp) (fun h => by simp at h) (by simp)
/-- A field of a row of one's own is set free. -/
theorem SOwn.free {w : World} {base : Nat} {fs : List Fd} {g cap : Nat} {a : World} (h : SOwn w base fs (.slice (some ⟨g, 0, none⟩) fs.length cap) a) {q : Nat} (hq : q < fs.length) :
    SOwn w base (fs.set q { fs.getD q fd0 with fr := true }) (.slice (some ⟨g, 0, none⟩) fs.length cap) (a.setCell ⟨g, q * 5 + 4, none⟩ (.bool true)) := by
  obtain ⟨h1, h2, h3⟩ := h
  have hg := (h3.lt g rfl).1
  have h4 := (h3.stored (q * 5 + 4) (.bool true)).1
  rw [flds_set fs q hq] at h4
  refine ⟨below_set1 h1 (by omega) _, h2, ?_⟩
  rw [List.length_set]
  exact h4
theorem set_free {l : List Fd} {q : Nat} (hq : q < l.length) (h : ∀ i, i < q → (l.getD i fd0).fr = true) : ∀ i, i < q + 1 → ((l.set q { l.getD q fd0 with fr := true }).getD i fd0).fr = true := fun i hi => by
  by_cases e : i = q
  · subst e
    rw [List.getD_eq_getElem?_getD, List.getElem?_set_self hq]; rfl
  · have := h i (by omega)
    rw [List.getD_eq_getElem?_getD, List.getElem?_set_ne (by omega), ← List.getD_eq_getElem?_getD]; exact this
theorem set_good {l : List Fd} {q : Nat} (h : ∀ f ∈ l, f.good) : ∀ f ∈ l.set q { l.getD q fd0 with fr := true }, f.good := fun f hf => by
  rcases List.mem_or_eq_of_mem_set hf with h' | h'
  · exact h f h'
  · subst h'
    have hz : Fd.good fd0 := ⟨by unfold txtB fd0; simp, ⟨by decide, by decide⟩, ⟨by decide, by decide⟩, ⟨by decide, by decide⟩⟩
    have : (l.getD q fd0).good := by
      rw [List.getD_eq_getElem?_getD]
      rcases hq : l[q]? with _ | x
      · exact hz
      · exact h x (List.mem_of_getElem? hq)
    exact this

end Go.Proofs.Ytkmiemaigalgpaa.Js
