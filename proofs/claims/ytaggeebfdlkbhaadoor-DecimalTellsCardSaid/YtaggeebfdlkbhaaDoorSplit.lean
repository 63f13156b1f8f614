/- The contract of split: a number's text, taken apart. -/
import Derived.Test.YtaggeebfdlkbhaaDoorForm
set_option linter.unusedSimpArgs false
set_option linter.unusedVariables false
namespace Go.Proofs.YtaggeebfdlkbhaaDoor
open Go.RowKit Go.Sort

abbrev Numeral := Bool × List UInt8 × List UInt8 × Int
def badW (W : List UInt8) : Bool := W.isEmpty || (decide (1 < W.length) && pre W 48)
/-- Behind the point, or where there is none: what is left tells a power. -/
def tailS (neg : Bool) (W Fr S4 : List UInt8) : Option Numeral :=
  if S4.isEmpty = true then some (neg, W, Fr, 0) else match powS S4 with | none => none | some E => some (neg, W, Fr, E)
def splitS (l : List UInt8) : Option Numeral :=
  let W := headD (cutp l 45)
  let S2 := restD (cutp l 45)
  if badW W = true then none
  else if pre S2 46 = true then
    (if (headD (cutp S2 46)).isEmpty = true then none else tailS (pre l 45) W (headD (cutp S2 46)) (restD (cutp S2 46)))
  else tailS (pre l 45) W [] (cutp S2 46)
def numV (b : Bool) (W Fr : List UInt8) (p : Int) : Value := .agg #[.bool b, .string ⟨W.toArray⟩, .string ⟨Fr.toArray⟩, .int .i64 p]
def splV (o : Option Numeral) : Value :=
  match o with
  | none => .tuple #[.agg #[.bool false, .string ⟨#[]⟩, .string ⟨#[]⟩, .int .i64 0], .bool false]
  | some (b, W, Fr, E) => .tuple #[.agg #[.bool b, .string ⟨W.toArray⟩, .string ⟨Fr.toArray⟩, .int .i64 (clampE E)], .bool true]

theorem first_byte (x : UInt8) (W : List UInt8) (h : 0 < (⟨(x :: W).toArray⟩ : ByteArray).size) : ((⟨(x :: W).toArray⟩ : ByteArray)[0].toNat : Int) = x.toNat := rfl
theorem cons_pos (x : UInt8) (W : List UInt8) : 0 < (⟨(x :: W).toArray⟩ : ByteArray).size := by
  have : (⟨(x :: W).toArray⟩ : ByteArray).size = (x :: W).length := List.size_toArray
  rw [this]; simp

/-- A block of four cells, none frozen. -/
structure NumAt (w : World) (b : Nat) (v0 v1 v2 v3 : Value) : Prop where
  c0 : w.cell? ⟨b, 0, none⟩ = some v0
  c1 : w.cell? ⟨b, 1, none⟩ = some v1
  c2 : w.cell? ⟨b, 2, none⟩ = some v2
  c3 : w.cell? ⟨b, 3, none⟩ = some v3
  fz : ∀ o, w.frozen? ⟨b, o, none⟩ = false
  lt : b < w.heap.size
theorem NumAt.below {w w' : World} {b : Nat} {v0 v1 v2 v3 : Value} (h : NumAt w b v0 v1 v2 v3) (hb : Below w.heap.size w w') : NumAt w' b v0 v1 v2 v3 :=
  ⟨by rw [(bcell hb).1 _ _ h.lt]; exact h.c0, by rw [(bcell hb).1 _ _ h.lt]; exact h.c1, by rw [(bcell hb).1 _ _ h.lt]; exact h.c2, by rw [(bcell hb).1 _ _ h.lt]; exact h.c3,
    fun o => by rw [(bcell hb).2 _ _ h.lt]; exact h.fz o, Nat.lt_of_lt_of_le h.lt hb.size⟩
theorem NumAt.set1 {w : World} {b : Nat} {v0 v1 v2 v3 : Value} (h : NumAt w b v0 v1 v2 v3) (u : Value) : NumAt (w.setCell ⟨b, 1, none⟩ u) b v0 u v2 v3 :=
  ⟨by rw [World.cell?_setCell_other _ _ _ _ (by simp)]; exact h.c0, World.cell?_setCell_same _ _ _ h.c1, by rw [World.cell?_setCell_other _ _ _ _ (by simp)]; exact h.c2, by rw [World.cell?_setCell_other _ _ _ _ (by simp)]; exact h.c3,
    fun o => by rw [World.frozen?_setCell]; exact h.fz o, by simpa [World.setCell] using h.lt⟩
theorem NumAt.set2 {w : World} {b : Nat} {v0 v1 v2 v3 : Value} (h : NumAt w b v0 v1 v2 v3) (u : Value) : NumAt (w.setCell ⟨b, 2, none⟩ u) b v0 v1 u v3 :=
  ⟨by rw [World.cell?_setCell_other _ _ _ _ (by simp)]; exact h.c0, by rw [World.cell?_setCell_other _ _ _ _ (by simp)]; exact h.c1, World.cell?_setCell_same _ _ _ h.c2, by rw [World.cell?_setCell_other _ _ _ _ (by simp)]; exact h.c3,
    fun o => by rw [World.frozen?_setCell]; exact h.fz o, by simpa [World.setCell] using h.lt⟩
theorem NumAt.far {w : World} {b : Nat} {v0 v1 v2 v3 : Value} (h : NumAt w b v0 v1 v2 v3) {a : Addr} (ha : a.block ≠ b) (u : Value) : NumAt (w.setCell a u) b v0 v1 v2 v3 :=
  ⟨by rw [World.cell?_setCell_other _ _ _ _ (by intro e; subst e; exact ha rfl)]; exact h.c0, by rw [World.cell?_setCell_other _ _ _ _ (by intro e; subst e; exact ha rfl)]; exact h.c1, by rw [World.cell?_setCell_other _ _ _ _ (by intro e; subst e; exact ha rfl)]; exact h.c2, by rw [World.cell?_setCell_other _ _ _ _ (by intro e; subst e; exact ha rfl)]; exact h.c3,
    fun o => by rw [World.frozen?_setCell]; exact h.fz o, by simpa [World.setCell] using h.lt⟩

set_option maxHeartbeats 1000000 in
theorem split_bad (l : List UInt8) (w : World) (hl : l.length ≤ 400) (neg : Bool) (HN : Hid (pre l 45 = neg)) (S1 W S2 : List UInt8) (H1 : Hid (cutp l 45 = S1)) (HW : Hid (headD S1 = W)) (H2 : Hid (restD S1 = S2))
    (hb : badW W = true) :
    Calls Tryd.prog 30 #[.string ⟨l.toArray⟩] w (Ret (splV none) w) := by
  have hS1 : S1.length ≤ 400 := by have := cutp_len l 45; rw [H1.out] at this; omega
  go_enter Tryd.func30, Tryd.ntmps30
  go_wp2_with fail
  (with_reducible refine (cutp_any _ _ _).mono ?_)
  rintro e1 w1 ⟨rfl, rfl⟩
  rw [H1.out, HN.out]
  go_wp2_with fail
  (with_reducible refine (cut_any _ _ (by omega)).mono ?_)
  rintro e1 w1 ⟨rfl, hb1⟩
  rw [HW.out, H2.out]
  obtain ⟨hc, hf⟩ := bcell hb1
  have hz : w.heap.size + 1 < w1.heap.size := by have := hb1.size; simp at this; omega
  have r0 : w1.cell? ⟨w.heap.size, 0, none⟩ = some (.bool false) := by rw [hc _ _ (by simp; omega)]; simp
  have r1 : w1.cell? ⟨w.heap.size, 1, none⟩ = some (.string ⟨#[]⟩) := by rw [hc _ _ (by simp; omega)]; simp
  have r2 : w1.cell? ⟨w.heap.size, 2, none⟩ = some (.string ⟨#[]⟩) := by rw [hc _ _ (by simp; omega)]; simp
  have r3 : w1.cell? ⟨w.heap.size, 3, none⟩ = some (.int .i64 0) := by rw [hc _ _ (by simp; omega)]; simp
  have n0 : w1.cell? ⟨w.heap.size + 1, 0, none⟩ = some (.bool neg) := by rw [hc _ _ (by simp)]; simp
  have n1 : w1.cell? ⟨w.heap.size + 1, 1, none⟩ = some (.string ⟨#[]⟩) := by rw [hc _ _ (by simp)]; simp
  have n2 : w1.cell? ⟨w.heap.size + 1, 2, none⟩ = some (.string ⟨#[]⟩) := by rw [hc _ _ (by simp)]; simp
  have n3 : w1.cell? ⟨w.heap.size + 1, 3, none⟩ = some (.int .i64 0) := by rw [hc _ _ (by simp)]; simp
  have fr : ∀ o, w1.frozen? ⟨w.heap.size, o, none⟩ = false := fun o => by rw [hf _ _ (by simp; omega)]; simp
  have fn : ∀ o, w1.frozen? ⟨w.heap.size + 1, o, none⟩ = false := fun o => by rw [hf _ _ (by simp)]; simp
  have hbb := below_call (below_call hb1)
  clear hb1 hc hf
  rcases hWe : W.isEmpty with _ | _
  · unfold badW at hb
    rw [hWe] at hb
    simp only [Bool.false_or, Bool.and_eq_true, decide_eq_true_eq] at hb
    obtain ⟨h1, h2⟩ := hb
    obtain ⟨x, W', rfl⟩ : ∃ x W', W = x :: W' := by cases W with | nil => simp at hWe | cons x W' => exact ⟨x, W', rfl⟩
    have h3 : x = 48 := by simpa [pre] using h2
    have h4 : (((⟨(x :: W').toArray⟩ : ByteArray)[0]'(cons_pos x W')).toNat : Int) = 48 := by rw [first_byte, h3]; rfl
    have h5 : ((((⟨(x :: W').toArray⟩ : ByteArray)[0]'(cons_pos x W')).toNat : Int) == 48) = true := by rw [h4]; rfl
    have h6 : (1 : Int) < (W'.length : Int) + 1 := by simp at h1; omega
    clear h1 h2 h3 h4
    go_wp2
    exact bodyPost_ret (v := splV none) (by simp [splV, results, Tryd.results30, go_sem, r0, r1, r2, r3]) rfl ⟨rfl, by repeat (first | exact hbb | refine Below.setCell ?_ (by simp) _)⟩
  · clear hb
    go_wp2
    exact bodyPost_ret (v := splV none) (by simp [splV, results, Tryd.results30, go_sem, r0, r1, r2, r3]) rfl ⟨rfl, by repeat (first | exact hbb | refine Below.setCell ?_ (by simp) _)⟩
end Go.Proofs.YtaggeebfdlkbhaaDoor
