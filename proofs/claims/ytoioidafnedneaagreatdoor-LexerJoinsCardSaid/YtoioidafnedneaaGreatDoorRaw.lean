import Derived.Test.YtoioidafnedneaaGreatDoorToks
import Derived.Test.YtoioidafnedneaaGreatDoorQuoB
/- Raw tokens that are read. -/
set_option linter.unusedVariables false
set_option linter.unusedSimpArgs false
namespace Go.Proofs.YtoioidafnedneaaGreatDoor.Lex
open Go.RowKit

/-- A raw token: three numbers, and a slice of numbers with what it reads as. -/
structure Raw where
  k : Int
  m : Int
  e : Int
  v : Value
  t : List Int
def raw0 : Raw := ⟨0, 0, 0, .slice none 0 0, []⟩
/-- A slice's length is at most its capacity. -/
def CapOk (v : Value) : Prop := ∀ ao n c, v = .slice ao n c → n ≤ c
def i64B (n : Int) : Prop := -9223372036854775808 ≤ n ∧ n ≤ 9223372036854775807
/-- A raw token in memory. -/
structure RawIn (w : World) (b off : Nat) (x : Raw) : Prop where
  c0 : w.cell? ⟨b, off, none⟩ = some (.int .i64 x.k)
  c1 : w.cell? ⟨b, off + 1, none⟩ = some (.int .i64 x.m)
  c2 : w.cell? ⟨b, off + 2, none⟩ = some (.int .i64 x.e)
  c3 : w.cell? ⟨b, off + 3, none⟩ = some x.v
  hk : i64B x.k
  hm : i64B x.m
  he : i64B x.e
  ht : Quo.IntsAt w x.v x.t
  hc : CapOk x.v
theorem RawIn.below {w w' : World} {b off : Nat} {x : Raw} (h : RawIn w b off x) (hb : Below w.heap.size w w') (hlt : b < w.heap.size) : RawIn w' b off x :=
  ⟨(hb.cell hlt).trans h.c0, (hb.cell hlt).trans h.c1, (hb.cell hlt).trans h.c2, (hb.cell hlt).trans h.c3, h.hk, h.hm, h.he, h.ht.below hb, h.hc⟩
/-- A slice that reads as a list of raw tokens. -/
def RawsAt (w : World) (v : Value) (l : List Raw) : Prop :=
  (∃ ao cap, v = .slice ao 0 cap ∧ l = []) ∨
  (∃ b off cap, v = .slice (some ⟨b, off, none⟩) l.length cap ∧ 0 < l.length ∧ l.length ≤ cap ∧ l.length ≤ 9223372036854775807 ∧ b < w.heap.size ∧ ∀ j, j < l.length → RawIn w b (off + j * 4) (l.getD j raw0))
theorem RawsAt.below {w w' : World} {v : Value} {l : List Raw} (h : RawsAt w v l) (hb : Below w.heap.size w w') : RawsAt w' v l := by
  rcases h with h | ⟨b, off, cap, h1, h0, h2, h3, h4, h5⟩
  · exact .inl h
  · exact .inr ⟨b, off, cap, h1, h0, h2, h3, Nat.lt_of_lt_of_le h4 hb.size, fun j hj => (h5 j hj).below hb h4⟩
end Go.Proofs.YtoioidafnedneaaGreatDoor.Lex
