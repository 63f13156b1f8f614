import Derived.Test.YtkmiemaigalgpaaRd9
import Derived.Deep.QuietTactic
import Derived.BigQuiet
/- Layer 5, plain: fields, what is told of an object's items; fields in memory; the contracts of place, number, text, flag, within and fit. -/
set_option linter.unusedVariables false
set_option linter.unusedSimpArgs false
namespace Go.Proofs.Ytkmiemaigalgpaa.Js
open Go.RowKit Lex

/-- A field of a schema. -/
structure Fd where
  nm : List UInt8
  k : Int
  lo : Int
  hi : Int
  fr : Bool
def fd0 : Fd := ⟨[], 0, 0, 0, false⟩
def Fd.good (f : Fd) : Prop := txtB f.nm ∧ i64B f.k ∧ i64B f.lo ∧ i64B f.hi
def fdV (f : Fd) : Value := .agg #[.string ⟨f.nm.toArray⟩, .int .i64 f.k, .int .i64 f.lo, .int .i64 f.hi, .bool f.fr]

/-- Where an object's item of a name stands: at the first such name that has an item. -/
def plcL (nm : List UInt8) : List (List UInt8) → Nat → Nat → Int
  | [], _, _ => -1
  | x :: r, i, n => if i < n then (if x = nm then (i : Int) else plcL nm r (i + 1) n) else -1
def plc (j : J) (nm : List UInt8) : Int := if j.k = 7 then plcL nm j.ns 0 j.is.length else -1
def getS (j : J) (nm : List UInt8) : J × Bool := if plc j nm < 0 then (j0, false) else (j.is.getD (plc j nm).toNat j0, true)
def numS (x : J) : Int × Bool := if x.k = 4 then Dec.intS x.m x.e else (0, false)
def txtS (x : J) : List UInt8 × Bool := if x.k = 5 then (x.t, true) else ([], false)
def flagS (x : J) : Bool × Bool := (x.k == 3, x.k == 3 || x.k == 2)
def lstS (x : J) : List J × Bool := if x.k = 6 then (x.is, true) else ([], false)
def inB (n : Int) (f : Fd) : Bool := decide (f.lo ≤ n) && decide (n ≤ f.hi)
def fitB (x : J) (f : Fd) : Bool :=
  if f.k = 8 then (flagS x).2 else if x.k ≠ f.k then false else if f.k = 4 then (numS x).2 && inB (numS x).1 f else if f.k = 5 then inB x.t.length f else if f.k = 6 then inB x.is.length f else true
def hasB (j : J) (f : Fd) : Bool := if (getS j f.nm).2 = true then fitB (getS j f.nm).1 f else f.fr
def chkL (j : J) : List Fd → Nat → Int
  | [], _ => -1
  | f :: r, i => if j.k = 7 ∧ hasB j f = true then chkL j r (i + 1) else i

theorem plcL_ge (nm : List UInt8) : ∀ (l : List (List UInt8)) (i n : Nat), -1 ≤ plcL nm l i n ∧ plcL nm l i n < n ∧ plcL nm l i n < i + l.length
  | [], i, n => by unfold plcL; omega
  | x :: r, i, n => by
    unfold plcL
    have := plcL_ge nm r (i + 1) n
    split
    · split
      · simp; omega
      · simp only [List.length_cons]; omega
    · simp only [List.length_cons]; omega
theorem plc_lt (j : J) (nm : List UInt8) : -1 ≤ plc j nm ∧ plc j nm < j.is.length := by
  unfold plc
  split
  · exact ⟨(plcL_ge nm _ 0 _).1, (plcL_ge nm _ 0 _).2.1⟩
  · omega

theorem cast_min (a b : Nat) : min (a : Int) (b : Int) = ((min a b : Nat) : Int) := by omega
theorem drop_getD0 {α : Type} {l : List α} {q : Nat} (z : α) (h : q < l.length) : l.drop q = l.getD q z :: l.drop (q + 1) := by
  rw [List.drop_eq_getElem_cons h, List.getD_eq_getElem?_getD, List.getElem?_eq_getElem h]
  rfl

set_option maxHeartbeats 4000000 in
set_option maxRecDepth 100000 in
theorem place_any (S : Nat → Prop) (d : Nat) (v : Value) (j : J) (nm : List UInt8) (w : World) (h : JAt S w d v j) : Calls Try.prog 46 #[v, .string ⟨nm.toArray⟩] w (Ret (.int .i64 (plc j nm)) w) := by
  obtain ⟨k, m, e, t, ns, is⟩ := j
  obtain ⟨d', an, cn, ai, ci, hd', rfl, _, _, _, _, hns, hn1, hn, hi1, hi, hit⟩ := h.open_
  have hb : ∀ o, Below w.heap.size w (w.alloc o) := fun o => (Below.refl _ _).alloc (Nat.le_refl _) _
  have HB := Lib.hid hb
  obtain ⟨_, _, e1, _, _, _, hc1⟩ := hns
  cases e1
  have H1 := Lib.hid hc1
  clear hc1 hit hb hd' h
  unfold plc
  by_cases hk : k = 7
  · subst hk
    rw [if_pos (show (J.mk 7 m e t ns is).k = 7 from rfl)]
    show Calls _ _ _ _ (Ret (.int .i64 (plcL nm ns 0 is.length)) w)
    obtain ⟨R, HR⟩ : ∃ R, Hid (plcL nm ns 0 is.length = R) := ⟨_, rfl⟩
    rw [HR.out]
    obtain ⟨nn, HN⟩ : ∃ n, Hid (ns.length = n) := ⟨_, rfl⟩
    obtain ⟨ni, HI⟩ : ∃ n, Hid (is.length = n) := ⟨_, rfl⟩
    rw [HN.out] at H1 hn hn1 ⊢
    rw [HI.out] at hi hi1 HR ⊢
    go_enter Try.func46, Try.ntmps46
    go_wp2_with fail
    go_loopw [16] (fun i wr => ∃ q : Nat, q ≤ nn ∧ q ≤ ni ∧ i = .int .i64 q ∧ w.alloc (.cells #[.int .i64 7, .int .i64 m, .int .i64 e, .string ⟨t.toArray⟩, .slice an nn cn, .slice ai ni ci] 27) = wr ∧ Hid (plcL nm (ns.drop q) q ni = R)) (fun i _ => nn - (intOf i).toNat)
    case atStart => exact ⟨0, Nat.zero_le _, Nat.zero_le _, rfl, rfl, HR⟩
    case round =>
      obtain ⟨q, hq, hq2, rfl, rfl, HK⟩ := hrel
      by_cases hlt : q < nn ∧ q < ni
      · obtain ⟨l1, l2⟩ := hlt
        obtain ⟨b1, o1, rfl, _, hb1, hx1⟩ := H1.out (by omega)
        have x1 := (cell_alloc_old w (.cells #[.int .i64 7, .int .i64 m, .int .i64 e, .string ⟨t.toArray⟩, .slice (some ⟨b1, o1, none⟩) nn cn, .slice ai ni ci] 27) b1 (o1 + q) hb1).trans (hx1 q l1)
        have HS := Lib.hid (drop_getD0 (l := ns) (q := q) [] (by rw [HN.out]; exact l1))
        unfold strW at x1
        have i1 : (q : Int) < min (nn : Int) (ni : Int) := by omega
        have i2 : (q : Int) < (nn : Int) := by omega
        clear hx1 H1
        generalize ns.getD q [] = X at *
        by_cases hxy : X = nm
        · subst hxy
          go_wp2_with fail
          go_ret
          refine ⟨Quo.ret_int ?_, HB.out _⟩
          rw [← HK.out, HS.out, plcL, if_pos l2, if_pos rfl]
        · have hne : (X == nm) = false := by simpa using hxy
          have HXY := Lib.hid hxy
          clear hxy
          go_wp2_with fail
          go_roundw
          case rel => exact ⟨q + 1, by omega, by omega, by go_num, trivial, by show _ = _; rw [← HK.out, HS.out, plcL, if_pos l2, if_neg HXY.out]⟩
          case measure => simp [intOf]; omega
      · have i1 : ¬ (q : Int) < min (nn : Int) (ni : Int) := by omega
        have HE : Hid (R = -1) := by
          show _ = _
          rw [← HK.out]
          by_cases h : q < nn
          · rw [drop_getD0 (l := ns) (q := q) [] (by rw [HN.out]; exact h), plcL, if_neg (by omega)]
          · rw [List.drop_of_length_le (by rw [HN.out]; omega), plcL]
        go_wp2_with fail
        go_ret
        exact ⟨Quo.ret_int HE.out.symm, HB.out _⟩
  · rw [if_neg (show ¬ (J.mk k m e t ns is).k = 7 from hk)]
    have hne : (k != 7) = true := by simpa using hk
    go_enter Try.func46, Try.ntmps46
    go_wp2_with fail
    go_ret
    exact ⟨rfl, HB.out _⟩

theorem bdrewN {B : Nat} {a w : World} (h : Below B a w) (n : Nat) : Below B a (w.drewN n) := h.trans ⟨rfl, rfl, rfl, Nat.le_refl _, fun _ _ => rfl⟩
set_option maxHeartbeats 1000000 in
set_option maxRecDepth 100000 in
theorem number_any (S : Nat → Prop) (d : Nat) (v : Value) (j : J) (w : World) (h : JAt S w d v j) : Calls Try.prog 33 #[v] w (Ret (.tuple #[.int .i64 (numS j).1, .bool (numS j).2]) w) := by
  obtain ⟨k, m, e, t, ns, is⟩ := j
  obtain ⟨d', an, cn, ai, ci, hd', rfl, _, _, _, _, _⟩ := h.open_
  unfold numS
  by_cases hk : k = 4
  · subst hk
    rw [if_pos (show (J.mk 4 m e t ns is).k = 4 from rfl)]
    show Calls _ _ _ _ (Ret (.tuple #[.int .i64 (Dec.intS m e).1, .bool (Dec.intS m e).2]) w)
    have I1 := Lib.hid (fun w => Dec.int_any m e w)
    unfold Dec.rsV at I1
    generalize Dec.intS m e = R at *
    obtain ⟨r1, r2⟩ := R
    go_enter Try.func33, Try.ntmps33
    go_wp2_with (go_at_call 47; (with_reducible refine (I1.out _).mono ?_); rintro e1 w1 ⟨rfl, hb1⟩)
    go_ret2
    exact ⟨rfl, Dec.below_call hb1⟩
  · rw [if_neg (show ¬ (J.mk k m e t ns is).k = 4 from hk)]
    have hne : (k != 4) = true := by simpa using hk
    go_enter Try.func33, Try.ntmps33
    go_wp2_with fail
    go_ret2
    exact ⟨rfl, (Below.refl _ _).alloc (Nat.le_refl _) _⟩
set_option maxHeartbeats 1000000 in
set_option maxRecDepth 100000 in
theorem text_any (S : Nat → Prop) (d : Nat) (v : Value) (j : J) (w : World) (h : JAt S w d v j) : Calls Try.prog 36 #[v] w (Ret (.tuple #[.string ⟨(txtS j).1.toArray⟩, .bool (txtS j).2]) w) := by
  obtain ⟨k, m, e, t, ns, is⟩ := j
  obtain ⟨d', an, cn, ai, ci, hd', rfl, _, _, _, _, _⟩ := h.open_
  unfold txtS
  by_cases hk : k = 5
  · subst hk
    rw [if_pos (show (J.mk 5 m e t ns is).k = 5 from rfl)]
    go_enter Try.func36, Try.ntmps36
    go_wp2_with fail
    go_ret2
    exact ⟨rfl, (Below.refl _ _).alloc (Nat.le_refl _) _⟩
  · rw [if_neg (show ¬ (J.mk k m e t ns is).k = 5 from hk)]
    have hne : (k != 5) = true := by simpa using hk
    go_enter Try.func36, Try.ntmps36
    go_wp2_with fail
    go_ret2
    exact ⟨rfl, (Below.refl _ _).alloc (Nat.le_refl _) _⟩
set_option maxHeartbeats 1000000 in
set_option maxRecDepth 100000 in
theorem flag_any (S : Nat → Prop) (d : Nat) (v : Value) (j : J) (w : World) (h : JAt S w d v j) : Calls Try.prog 38 #[v] w (Ret (.tuple #[.bool (flagS j).1, .bool (flagS j).2]) w) := by
  obtain ⟨k, m, e, t, ns, is⟩ := j
  obtain ⟨d', an, cn, ai, ci, hd', rfl, _, _, _, _, _⟩ := h.open_
  unfold flagS
  show Calls _ _ _ _ (Ret (.tuple #[.bool (k == 3), .bool (k == 3 || k == 2)]) w)
  by_cases hk : k = 3
  · subst hk
    go_enter Try.func38, Try.ntmps38
    go_wp2_with fail
    go_quiet (fail)
    go_wp2_with fail
    go_ret2
    exact ⟨rfl, bdrewN ((Below.refl _ _).alloc (Nat.le_refl _) _) _⟩
  · have hne : (k == 3) = false := by simpa using hk
    rw [hne]
    obtain ⟨b, hb⟩ : ∃ b, (k == 2) = b := ⟨_, rfl⟩
    rw [hb]
    go_enter Try.func38, Try.ntmps38
    go_wp2_with fail
    go_quiet (fail)
    go_wp2_with fail
    go_ret2
    exact ⟨rfl, bdrewN ((Below.refl _ _).alloc (Nat.le_refl _) _) _⟩
set_option maxHeartbeats 1000000 in
set_option maxRecDepth 100000 in
theorem within5_any (n : Int) (f : Fd) (w : World) : Calls Try.prog 55 #[.int .i64 n, fdV f] w (Ret (.bool (inB n f)) w) := by
  obtain ⟨nm, k, lo, hi, fr⟩ := f
  unfold fdV inB
  by_cases h1 : lo ≤ n
  · have h2 : decide (lo ≤ n) = true := by simpa using h1
    rw [h2]
    obtain ⟨b, hb⟩ : ∃ b, decide (n ≤ hi) = b := ⟨_, rfl⟩
    rw [hb]
    go_enter Try.func55, Try.ntmps55
    go_wp2_with fail
    go_ret
    exact ⟨Quo.ret_bool (by simp [hb]), (Below.refl _ _).alloc (Nat.le_refl _) _⟩
  · have h2 : decide (lo ≤ n) = false := by simpa using h1
    rw [h2]
    go_enter Try.func55, Try.ntmps55
    go_wp2_with fail
    go_ret
    exact ⟨rfl, (Below.refl _ _).alloc (Nat.le_refl _) _⟩
end Go.Proofs.Ytkmiemaigalgpaa.Js
