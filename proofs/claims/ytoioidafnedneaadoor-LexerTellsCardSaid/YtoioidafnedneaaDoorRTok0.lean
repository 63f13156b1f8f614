import Derived.Test.YtoioidafnedneaaDoorRWord
import Derived.Test.YtoioidafnedneaaDoorDecR
import Derived.Test.YtoioidafnedneaaDoorQuoR
/- The contract of the document's token (humpyardref03). -/
set_option linter.unusedVariables false
set_option linter.unusedSimpArgs false
namespace Go.Proofs.YtoioidafnedneaaDoor.Lex
open Go.RowKit

/-- A token with its place. -/
def atR (r : Tok × Nat) (i : Nat) : Tok × Nat := (if r.1.k = 0 then tok0 else r.1.at_ i, r.2)
theorem first_kind {l : List UInt8} (h : (firstL l).2 ≠ 0) : (firstL l).1.k ≠ 0 := by
  revert h
  unfold firstL
  split
  · simp
  · split
    · simp
    · split
      · unfold textL; split <;> simp [tok0]
      · split
        · unfold numberL; split <;> simp [tok0]
        · split
          · unfold wordL; split <;> simp [tok0]
          · simp
theorem sign_z {c : UInt8} (h : signB c = true) : (c.toNat : Int) = 123 ∨ (c.toNat : Int) = 125 ∨ (c.toNat : Int) = 91 ∨ (c.toNat : Int) = 93 ∨ (c.toNat : Int) = 44 ∨ (c.toNat : Int) = 58 := by
  simp only [signB, List.contains_eq_mem, decide_eq_true_eq, List.mem_cons, List.not_mem_nil, or_false] at h
  rcases h with rfl | rfl | rfl | rfl | rfl | rfl <;> decide
theorem sign_no {c : UInt8} (h : signB c = false) : ((c.toNat : Int) == 123) = false ∧ ((c.toNat : Int) == 125) = false ∧ ((c.toNat : Int) == 91) = false ∧ ((c.toNat : Int) == 93) = false ∧ ((c.toNat : Int) == 44) = false ∧ ((c.toNat : Int) == 58) = false := by
  have k : ∀ n : Nat, n < 256 → signB (UInt8.ofNat n) = true → ((c.toNat : Int) == (n : Int)) = false := fun n hn hb => by
    by_cases e : c.toNat = n
    · rw [← u8_eq hn e, h] at hb; cases hb
    · simp; omega
  exact ⟨k 123 (by omega) (by decide), k 125 (by omega) (by decide), k 91 (by omega) (by decide), k 93 (by omega) (by decide), k 44 (by omega) (by decide), k 58 (by omega) (by decide)⟩
theorem rpar_any (l : List UInt8) (w : World) (hl : l.length ≤ 1000000) : Calls Tryd.prog 39 #[.string ⟨l.toArray⟩] w (Ret (Dec.mkV (Dec.parseS l)) w) := Dec.rparse_any ⟨l.toArray⟩ w (by rw [bs_size]; omega)
theorem runq_any (s : ByteArray) (w : World) (hs : s.size ≤ 1000000) : Calls Tryd.prog 37 #[.string s] w (Ret (Quo.unqV (Quo.unqS s.data.toList)) w) := Quo.runq_any s w (by omega)

end Go.Proofs.YtoioidafnedneaaDoor.Lex
