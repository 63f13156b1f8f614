import Derived.Test.YtnpbkjmlmdpggaaYj
/- Chapter 11's example. -/
set_option linter.unusedVariables false
set_option linter.unusedSimpArgs false
namespace Go.Proofs.Ytnpbkjmlmdpggaa.Ly
open Go.RowKit

def esX : List Ed := [(0, 1, 1), (1, 2, 1), (2, 0, 1)]
theorem right_x : RightL 3 esX := by
  refine ⟨by decide, by decide, by decide, fun i hi => ?_⟩
  have hi' : i < 3 := hi
  have : i = 0 ∨ i = 1 ∨ i = 2 := by omega
  rcases this with rfl | rfl | rfl
  · exact ⟨by simp [EdgeOk, ate, esX], fun j hj => by omega⟩
  · refine ⟨by simp [EdgeOk, ate, esX], fun j hj => ?_⟩
    obtain rfl : j = 0 := by omega
    simp [Same, ate, esX]
  · refine ⟨by simp [EdgeOk, ate, esX], fun j hj => ?_⟩
    have : j = 0 ∨ j = 1 := by omega
    rcases this with rfl | rfl <;> simp [Same, ate, esX]
theorem rightB_x : rightB 3 esX = true := rightB_true right_x
theorem x01 {bl : List Int} (h : (1 : Int) ∉ bl) : Way esX bl 0 1 := .over (e := (0, 1, 1)) (by simp [esX]) .here h
theorem x12 : Way esX [] 1 2 := .over (e := (1, 2, 1)) (by simp [esX]) .here (by simp)
theorem x20 : Way esX [] 2 0 := .over (e := (2, 0, 1)) (by simp [esX]) .here (by simp)
theorem strong_x : strongB 3 esX = true := strongB_true ⟨right_x, fun a ha v hv => by
  have ha' : a < 3 := ha
  have hv' : v < 3 := hv
  have h01 : Way esX [] 0 1 := x01 (by simp)
  have h1 : a = 0 ∨ a = 1 ∨ a = 2 := by omega
  have h2 : v = 0 ∨ v = 1 ∨ v = 2 := by omega
  rcases h1 with rfl | rfl | rfl <;> rcases h2 with rfl | rfl | rfl
  · exact .here
  · exact h01
  · exact h01.trans x12
  · exact x12.trans x20
  · exact .here
  · exact x12
  · exact x20
  · exact x20.trans h01
  · exact .here⟩
theorem reach_x : reachL 3 esX [2] 0 = [0, 1] := by
  unfold reachL
  rw [rightB_x, show nodeB 3 0 = true from rfl]
  show selL (fun (v : Nat) => wayB esX [2] 0 (v : Int)) 3 = _
  have h0 : wayB esX [2] 0 ((0 : Nat) : Int) = true := wayB_iff.2 .here
  have h1 : wayB esX [2] 0 ((1 : Nat) : Int) = true := wayB_iff.2 (x01 (by simp))
  have h2 : wayB esX [2] 0 ((2 : Nat) : Int) = false := by
    rw [← Bool.not_eq_true, wayB_iff]
    intro h
    rcases h.unblocked with h | h
    · cases h
    · simp at h
  rw [selL_no h2, selL_yes h1, selL_yes h0]
  rfl
theorem out_x : outL 3 esX 2 = [2] := by
  unfold outL
  rw [rightB_x, if_pos rfl]
  rfl
theorem betw_x : betL 3 esX 1 2 = (1, true) := by
  unfold betL
  rw [rightB_x, if_pos rfl]
  rfl
def X9 : Array Value := #[.int .i64 0, .int .i64 1, .int .i64 1, .int .i64 1, .int .i64 2, .int .i64 1, .int .i64 2, .int .i64 0, .int .i64 1]
theorem edges_x {w : World} {b : Nat} (h : w.heap[b]? = some (.cells X9 54 (0, 0))) : EdgesAt w (.slice (some ⟨b, 0, none⟩) 3 3) esX := by
  refine ⟨_, 3, rfl, by decide, fun _ => ⟨b, 0, rfl, (Array.getElem?_eq_some_iff.1 h).1, fun j hj => ?_⟩⟩
  have hj' : j < 3 := hj
  have : j = 0 ∨ j = 1 ∨ j = 2 := by omega
  rcases this with rfl | rfl | rfl
  all_goals
    refine ⟨?_, ?_, ?_⟩ <;> rw [cell_of_row _ _ _ _ _ _ h] <;> rfl
theorem ints_lit1 {w : World} {b : Nat} {x : Int} (h : w.heap[b]? = some (.cells #[.int .i64 x] 3 (0, 0))) : IntsAt w (.slice (some ⟨b, 0, none⟩) 1 1) [x] := by
  refine ⟨_, 1, rfl, by simp, fun _ => ⟨b, 0, rfl, (Array.getElem?_eq_some_iff.1 h).1, fun j hj => ?_⟩⟩
  obtain rfl : j = 0 := by simpa using hj
  rw [cell_of_row _ _ _ _ _ _ h]
  rfl
theorem ints_lit2 {w : World} {b : Nat} {x y : Int} (h : w.heap[b]? = some (.cells #[.int .i64 x, .int .i64 y] 3 (0, 0))) : IntsAt w (.slice (some ⟨b, 0, none⟩) 2 2) [x, y] := by
  refine ⟨_, 2, rfl, by simp, fun _ => ⟨b, 0, rfl, (Array.getElem?_eq_some_iff.1 h).1, fun j hj => ?_⟩⟩
  have hj' : j < 2 := hj
  have : j = 0 ∨ j = 1 := by omega
  rcases this with rfl | rfl <;> rw [cell_of_row _ _ _ _ _ _ h] <;> rfl
/-- The two things that stay: the box, and the edges. -/
structure KX (w0 w : World) (b : Nat) (n : Int) (v : Value) (es : List Ed) : Prop where
  below : Below w0.heap.size w0 w
  box : BoxAt n v w b
  ed : EdgesAt w v es
theorem KX.grow {w0 w w' : World} {b : Nat} {n : Int} {v : Value} {es : List Ed} (h : KX w0 w b n v es) (hb : Below w.heap.size w w') : KX w0 w' b n v es :=
  ⟨h.below.trans (hb.mono h.below.size), h.box.below hb, h.ed.below hb (Nat.le_refl _)⟩
theorem KX.alloc {w0 w : World} {b : Nat} {n : Int} {v : Value} {es : List Ed} (h : KX w0 w b n v es) (o : Obj) : KX w0 (w.alloc o) b n v es := h.grow ((Below.refl _ _).alloc (Nat.le_refl _) _)
end Go.Proofs.Ytnpbkjmlmdpggaa.Ly
