import Derived.Test.YtnjcfnmdelpecaaTf
/- Layer 7: awake. -/
set_option linter.unusedVariables false
set_option linter.unusedSimpArgs false
namespace Go.Proofs.Ytnjcfnmdelpecaa.Tp
open Go.RowKit

theorem print_some {m s k z : List UInt8} (h : printS m s k = some z) (w : World) (hm : m.length ≤ reachN) (hs : s.length ≤ reachN) (hk : k.length ≤ reachN) :
    Calls Try.prog 14 #[.agg #[.string ⟨m.toArray⟩, .string ⟨s.toArray⟩, .string ⟨k.toArray⟩]] w (Ret (.tuple #[.string ⟨z.toArray⟩, .int .i64 0]) w) := by
  have := Print_any m s k w hm hs hk
  rw [h] at this
  exact this
theorem print_none {m s k : List UInt8} (h : printS m s k = none) (w : World) (hm : m.length ≤ reachN) (hs : s.length ≤ reachN) (hk : k.length ≤ reachN) :
    Calls Try.prog 14 #[.agg #[.string ⟨m.toArray⟩, .string ⟨s.toArray⟩, .string ⟨k.toArray⟩]] w (Ret (.tuple #[.string ⟨#[]⟩, .int .i64 70]) w) := by
  have := Print_any m s k w hm hs hk
  rw [h] at this
  exact this
theorem parse_some {z m s k : List UInt8} (h : parseS z = some (m, s, k)) (w : World) (hz : z.length ≤ reachN) :
    Calls Try.prog 17 #[.string ⟨z.toArray⟩] w (Ret (.tuple #[.agg #[.string ⟨m.toArray⟩, .string ⟨s.toArray⟩, .string ⟨k.toArray⟩], .int .i64 0]) w) := by
  have := Parse_any z w hz
  rw [h] at this
  exact this
theorem parse_none {z : List UInt8} (h : parseS z = none) (w : World) (hz : z.length ≤ reachN) :
    Calls Try.prog 17 #[.string ⟨z.toArray⟩] w (Ret (.tuple #[.agg #[.string ⟨#[]⟩, .string ⟨#[]⟩, .string ⟨#[]⟩], .int .i64 70]) w) := by
  have := Parse_any z w hz
  rw [h] at this
  exact this
theorem match_is {f z : List UInt8} {b : Bool} (h : matchS f z = b) (w : World) (hf : f.length ≤ reachN) (hz : z.length ≤ reachN) :
    Calls Try.prog 19 #[.string ⟨f.toArray⟩, .string ⟨z.toArray⟩] w (Ret (.bool b) w) := by
  have := Match_any f z w hf hz
  rwa [h] at this
theorem name_is {l : List UInt8} {b : Bool} (h : nameB l = b) (w : World) (hl : l.length ≤ reachN) :
    Calls Try.prog 15 #[.string ⟨l.toArray⟩] w (fun e w' => e = .returned (.bool b) ∧ w = w') := by
  have := Name_l l w (by unfold reachN at hl; omega)
  rwa [h] at this
theorem reach_small {n : Nat} (h : n ≤ 100) : n ≤ reachN := by unfold reachN; omega

/-- A topic in memory. -/
def TAt (W : World) (b : Nat) (m s k : ByteArray) : Prop := HoldsA W b 0 (.string m) ∧ HoldsA W b 1 (.string s) ∧ HoldsA W b 2 (.string k) ∧ b < W.heap.size
theorem TAt.new (w : World) (m s k : ByteArray) (t : TypeId) : TAt (w.alloc (.cells #[.string m, .string s, .string k] t)) w.heap.size m s k :=
  ⟨HoldsA.new _ _ _ _ _ rfl, HoldsA.new _ _ _ _ _ rfl, HoldsA.new _ _ _ _ _ rfl, by simp⟩
theorem TAt.below {W W' : World} {b : Nat} {m s k : ByteArray} (h : TAt W b m s k) (hb : Below W.heap.size W W') : TAt W' b m s k :=
  ⟨h.1.below hb h.2.2.2, h.2.1.below hb h.2.2.2, h.2.2.1.below hb h.2.2.2, Nat.lt_of_lt_of_le h.2.2.2 hb.size⟩
theorem TAt.alloc {W : World} {b : Nat} {m s k : ByteArray} (h : TAt W b m s k) (o : Obj) : TAt (W.alloc o) b m s k :=
  ⟨h.1.alloc o, h.2.1.alloc o, h.2.2.1.alloc o, by have := h.2.2.2; simp; omega⟩
theorem below_a {w w1 w2 : World} {o : Obj} (h1 : Below w.heap.size w w1) (h2 : Below (w1.alloc o).heap.size (w1.alloc o) w2) : Below w.heap.size w w2 := below2 (h1.alloc h1.size o) h2

set_option maxHeartbeats 1000000 in
set_option maxRecDepth 100000 in
theorem awake_any (w : World) : Calls Try.prog 10 #[] w (Ret (.bool true) w) := by
  have C1 := Lib.hid (fun u => print_some (m := [109]) (s := [118, 49]) (k := [115, 116, 97, 116, 101]) (z := [117, 97, 103, 118, 47, 118, 50, 47, 109, 47, 118, 49, 47, 115, 116, 97, 116, 101]) (by decide +kernel) u (by decide) (by decide) (by decide))
  have C2 := Lib.hid (fun u => parse_some (z := [117, 97, 103, 118, 47, 118, 50, 47, 109, 47, 118, 49, 47, 115, 116, 97, 116, 101]) (m := [109]) (s := [118, 49]) (k := [115, 116, 97, 116, 101]) (by decide +kernel) u (by decide))
  have C3 := Lib.hid (fun u => parse_none (z := [117, 97, 103, 118, 47, 118, 50, 47, 109, 47, 118, 49, 47, 120]) (by decide +kernel) u (by decide))
  have C4 := Lib.hid (fun u => match_is (f := [117, 97, 103, 118, 47, 118, 50, 47, 43, 47, 118, 49, 47, 35]) (z := [117, 97, 103, 118, 47, 118, 50, 47, 109, 47, 118, 49, 47, 115, 116, 97, 116, 101]) (b := true) (by decide +kernel) u (by decide) (by decide))
  have C5 := Lib.hid (fun u => match_is (f := [117, 97, 103, 118, 47, 43]) (z := [117, 97, 103, 118, 47, 118, 50, 47, 109, 47, 118, 49, 47, 115, 116, 97, 116, 101]) (b := false) (by decide +kernel) u (by decide) (by decide))
  have C6 := Lib.hid (fun u => name_is (l := [118, 49]) (b := true) (by decide +kernel) u (by decide))
  go_enter Try.func10, Try.ntmps10
  go_wp2_with (go_at_call 14; (with_reducible refine (C1.out _).mono ?_); rintro e w1 ⟨rfl, hb1⟩; have A1 := Lib.hid ((TAt.new w _ _ _ _).below hb1); have B1 := Lib.hid (below_a (Below.refl _ w) hb1); clear hb1)
  go_wp2_with (go_at_call 17; (with_reducible refine (C2.out _).mono ?_); rintro e w2 ⟨rfl, hb2⟩; have A2 := Lib.hid (A1.out.below hb2); have B2 := Lib.hid (below2 B1.out hb2); clear hb2)
  go_wp2_with (go_at_call 17; (with_reducible refine (C3.out _).mono ?_); rintro e w3 ⟨rfl, hb3⟩; obtain ⟨⟨g0, _⟩, ⟨g1, _⟩, ⟨g2, _⟩, hlt⟩ := (A2.out.alloc _).below hb3; obtain ⟨⟨g3, _⟩, ⟨g4, _⟩, ⟨g5, _⟩, hlt2⟩ := (TAt.new w2 _ _ _ _).below hb3; have B3 := Lib.hid (below_a B2.out hb3); clear hb3)
  go_wp2_with (first | (go_at_call 19; (with_reducible refine (C4.out _).mono ?_); rintro e w4 ⟨rfl, hb4⟩; have B4 := Lib.hid (below_a B3.out hb4); clear hb4) | (go_at_call 19; (with_reducible refine (C5.out _).mono ?_); rintro e w5 ⟨rfl, hb5⟩; have B5 := Lib.hid (below2 B4.out hb5); clear hb5) | (go_at_call 15; (with_reducible refine (C6.out _).mono ?_); rintro e w6 ⟨rfl, rfl⟩))
  go_ret
  exact ⟨rfl, B5.out⟩
end Go.Proofs.Ytnjcfnmdelpecaa.Tp
