import Derived.Test.YtnjcfnmdelpecaaTg
import Derived.Test.YtnjcfnmdelpecaaTi
import Derived.Test.YtnjcfnmdelpecaaRows
import Derived.OpenShut
import Derived.JoinedCond
import Derived.JoinedOf
import Derived.SizedLaws
import Derived.Carry
import Derived.ChangeSlices
import Derived.ChangeSame
import Derived.Deep.DeepHandedRow
import Derived.Lib.SmallJoins
/- What opens the arguments of stage 7's laws: strings, numbers, bytes, topics, pairs of strings. -/
set_option linter.unusedVariables false
set_option linter.unusedSimpArgs false
namespace Go.Proofs.Ytnjcfnmdelpecaa.Tp
open Go.ChangeShapes Go.WideShapes Go.ChangeAt Go.RowKit

theorem own : ownKnob Try.prog.godebug = none := by kernel_rfl
theorem laidOut : laidOutB Try.prog = true := by kernel_rfl
theorem reach_eq : reachBytes = 140737488351232 := by decide +kernel
theorem byte_of {n : Int} (h : (Lit.int .u8 n).wf = true) : ∃ c : UInt8, n = (c.toNat : Int) := by
  obtain ⟨h0, h1⟩ := bounds_u8 h
  refine ⟨UInt8.ofNat n.toNat, ?_⟩
  rw [UInt8.toNat_ofNat']
  omega

/-- All slices and strings within a reading are within reach. -/
def Wt {H : Type} (t : TypeId) (d : DataW H) : Prop := ∀ n ∈ d.weights Try.prog t, n ≤ 140737488351232
theorem wt_of {H : Type} {ts : List TypeId} {ds : List (DataW H)} (h : (DataW.weightsEach Try.prog ts ds).all (· ≤ reachBytes) = true) {j : Nat} {t : TypeId} {d : DataW H} (ht : ts[j]? = some t) (hd : ds[j]? = some d) : Wt t d := fun n hn => by
  have := List.all_eq_true.1 h n (DataW.weights_mem_each ht hd n hn)
  rw [← reach_eq]
  simpa using this
theorem weights_all_mem {H : Type} {P : Program} {e : TypeId} : ∀ {l : List (DataW H)} {d : DataW H}, d ∈ l → ∀ n ∈ d.weights P e, n ∈ DataW.weightsAll P e l
  | [], d, h, _, _ => by simp at h
  | x :: r, d, h, n, hn => by
    rw [DataW.weightsAll]
    rcases List.mem_cons.1 h with rfl | h
    · exact List.mem_append_left _ hn
    · exact List.mem_append_right _ (weights_all_mem h n hn)
theorem wt_slice {H : Type} {t e : TypeId} {elems spare : List (DataW H)} (hu : Try.prog.underlying t = some (.slice e)) (h : Wt t (.slice elems spare)) : elems.length * Try.prog.bytesOf e ≤ 140737488351232 ∧ ∀ d ∈ elems, Wt e d := by
  unfold Wt at h
  rw [DataW.weights, hu] at h
  refine ⟨?_, fun d hd n hn => h n (List.mem_cons_of_mem _ (List.mem_append_left _ (weights_all_mem hd n hn)))⟩
  have := h _ (List.mem_cons_self ..)
  have h2 : elems.length * Try.prog.bytesOf e ≤ (elems.length + spare.length) * Try.prog.bytesOf e := Nat.mul_le_mul_right _ (Nat.le_add_right _ _)
  omega
theorem wt_part {H : Type} {t : TypeId} {fs : Array Field} {parts : List (DataW H)} (hu : Try.prog.underlying t = some (.struct fs)) (h : Wt t (.agg parts)) {j : Nat} {tj : TypeId} {d : DataW H} (ht : (fs.toList.map (·.type))[j]? = some tj) (hd : parts[j]? = some d) : Wt tj d := fun n hn => by
  unfold Wt at h
  rw [DataW.weights, hu] at h
  exact h n (DataW.weights_mem_each ht hd n hn)
theorem wt_string {H : Type} {t : TypeId} {bytes : List UInt8} (h : Wt (H := H) t (.lit (.string bytes))) : bytes.length ≤ 140737488351232 := by
  unfold Wt at h
  rw [DataW.weights] at h
  exact h _ (List.mem_cons_self ..)

theorem cellsA2 : Try.prog.cellsOf 38 = 2 := by kernel_rfl
theorem cellsS : Try.prog.cellsOf 9 = 1 := by kernel_rfl
theorem list2 {α : Type} {l : List α} (h : l.length = 2) : ∃ a b, l = [a, b] := by
  match l, h with
  | [a, b], _ => exact ⟨a, b, rfl⟩
theorem list_of (s : ByteArray) : Value.string s = .string ⟨s.data.toList.toArray⟩ := by rw [← bs_self]
set_option maxRecDepth 100000 in
/-- A topic by value. -/
theorem open_topic {H : Type} {enc : TypeId × Value → H} {W : World} {b0 base : Nat} {sp : Nat → Bool} {held : Bool} {v : Value} {d : DataW H} {p : List MemPlace}
    (hv : Value.okWide Try.prog W .any b0 23 v) (h : DataW.Trod enc Try.prog W base sp held 23 v d p) (hw : Wt 23 d) :
    ∃ m s k : List UInt8, v = topicV m s k ∧ m.length ≤ 140737488351232 ∧ s.length ≤ 140737488351232 ∧ k.length ≤ 140737488351232 := by
  obtain ⟨v0, v1, v2, y0, y1, y2, n, rfl, rfl, -, t0, t1, t2⟩ := Joins.open_agg3 Try.underlying23 (by kernel_rfl) (by kernel_rfl) hv h
  obtain ⟨s0, e0, hy0, -⟩ := DataW.trod_string Try.underlying9 t0
  obtain ⟨s1, e1, hy1, -⟩ := DataW.trod_string Try.underlying9 t1
  obtain ⟨s2, e2, hy2, -⟩ := DataW.trod_string Try.underlying9 t2
  have w0 := wt_part Try.underlying23 hw (j := 0) (tj := 9) rfl rfl
  have w1 := wt_part Try.underlying23 hw (j := 1) (tj := 9) rfl rfl
  have w2 := wt_part Try.underlying23 hw (j := 2) (tj := 9) rfl rfl
  rw [hy0] at w0
  rw [hy1] at w1
  rw [hy2] at w2
  cases e0
  cases e1
  cases e2
  exact ⟨s0.data.toList, s1.data.toList, s2.data.toList, by rw [list_of s0, list_of s1, list_of s2]; rfl, wt_string w0, wt_string w1, wt_string w2⟩
set_option maxRecDepth 100000 in
/-- A topic by value, and what is read of it. -/
theorem open_topic2 {H : Type} {enc : TypeId × Value → H} {W : World} {b0 base : Nat} {sp : Nat → Bool} {held : Bool} {v : Value} {d : DataW H} {p : List MemPlace}
    (hv : Value.okWide Try.prog W .any b0 23 v) (h : DataW.Trod enc Try.prog W base sp held 23 v d p) :
    ∃ m s k : List UInt8, v = topicV m s k ∧ d = .agg [.lit (.string m), .lit (.string s), .lit (.string k)] := by
  obtain ⟨v0, v1, v2, y0, y1, y2, n, rfl, rfl, -, t0, t1, t2⟩ := Joins.open_agg3 Try.underlying23 (by kernel_rfl) (by kernel_rfl) hv h
  obtain ⟨s0, e0, hy0, -⟩ := DataW.trod_string Try.underlying9 t0
  obtain ⟨s1, e1, hy1, -⟩ := DataW.trod_string Try.underlying9 t1
  obtain ⟨s2, e2, hy2, -⟩ := DataW.trod_string Try.underlying9 t2
  cases e0
  cases e1
  cases e2
  exact ⟨s0.data.toList, s1.data.toList, s2.data.toList, by rw [list_of s0, list_of s1, list_of s2]; rfl, by rw [hy0, hy1, hy2]⟩
theorem wt_elem {H : Type} {t e : TypeId} {k : Nat} {parts : List (DataW H)} (hu : Try.prog.underlying t = some (.array k e)) (h : Wt t (.agg parts)) {d : DataW H} (hd : d ∈ parts) : Wt e d := fun n hn => by
  unfold Wt at h
  rw [DataW.weights, hu] at h
  exact h n (weights_all_mem hd n hn)
set_option maxRecDepth 100000 in
/-- Two strings in an array by value. -/
theorem open_arr2s {H : Type} {enc : TypeId × Value → H} {W : World} {b0 base : Nat} {sp : Nat → Bool} {held : Bool} {v : Value} {d : DataW H} {p : List MemPlace}
    (hv : Value.okWide Try.prog W .any b0 38 v) (h : DataW.Trod enc Try.prog W base sp held 38 v d p) (hw : Wt 38 d) :
    ∃ a b : List UInt8, v = arr2V a b ∧ a.length ≤ 140737488351232 ∧ b.length ≤ 140737488351232 := by
  simp only [Value.okWide, Try.underlying38] at hv
  obtain ⟨cs, rfl, hsz, _⟩ := hv
  obtain ⟨c0, c1, rfl⟩ := Joins.array2 (hsz.trans cellsA2)
  obtain ⟨fuel, hf⟩ := h
  obtain ⟨xs, m, _, hx, _, hl, hi⟩ := DataW.trod_array Try.underlying38 hf
  have h0 := hi 0 (by decide)
  have h1 := hi 1 (by decide)
  rw [cellsS] at h0 h1
  obtain ⟨a, b, rfl⟩ := list2 hl
  have h0' : DataW.trod enc Try.prog W base sp held m 9 [c0] = some a := h0
  have h1' : DataW.trod enc Try.prog W base sp held m 9 [c1] = some b := h1
  obtain ⟨x, e0, rfl, -⟩ := DataW.trod_string Try.underlying9 h0'
  obtain ⟨y, e1, rfl, -⟩ := DataW.trod_string Try.underlying9 h1'
  simp only [Prod.mk.injEq] at hx
  obtain ⟨rfl, -⟩ := hx
  have w0 := wt_elem Try.underlying38 hw (d := .lit (.string x.data.toList)) (by simp)
  have w1 := wt_elem Try.underlying38 hw (d := .lit (.string y.data.toList)) (by simp)
  cases e0
  cases e1
  exact ⟨x.data.toList, y.data.toList, by rw [list_of x, list_of y]; rfl, wt_string w0, wt_string w1⟩

end Go.Proofs.Ytnjcfnmdelpecaa.Tp
