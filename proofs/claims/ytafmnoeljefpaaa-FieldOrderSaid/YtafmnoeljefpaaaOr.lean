import Derived.Test.YtafmnoeljefpaaaFr
import Derived.Test.YtafmnoeljefpaaaFp
/- Plain: what Check tells does not hang on where among the others a field of another name stands. -/
set_option linter.unusedVariables false
set_option linter.unusedSimpArgs false
namespace Go.Proofs.Ytafmnoeljefpaaa.Js
open Go.RowKit Lex

theorem hasB_same {j j' : J} {f : Fd} (h : getS j f.nm = getS j' f.nm) : hasB j f = hasB j' f := by
  unfold hasB
  rw [h]
theorem chkL_same {j j' : J} (hk : j.k = 7) (hk' : j'.k = 7) : ∀ (fs : List Fd) (i : Nat), (∀ f ∈ fs, getS j f.nm = getS j' f.nm) → chkL j fs i = chkL j' fs i
  | [], _, _ => rfl
  | f :: r, i, h => by
    rw [chkL, chkL, hasB_same (h f (by simp)), hk, hk', chkL_same hk hk' r (i + 1) (fun g hg => h g (by simp [hg]))]
theorem mkJ_k (ns : List (List UInt8)) (acc : List J) : (mkJ ns acc).k = 7 := rfl
theorem ord_front (ns : List (List UInt8)) (acc : List J) (more : List UInt8) (y : J) (fs : List Fd) (h : ∀ f ∈ fs, f.nm ≠ more) (i : Nat) : chkL (mkJ (more :: ns) (y :: acc)) fs i = chkL (mkJ ns acc) fs i := by
  refine chkL_same (mkJ_k _ _) (mkJ_k _ _) fs i (fun f hf => ?_)
  rw [getS_make, getS_make, asc, if_neg (fun e => h f hf e.symm)]
theorem ord_back (ns : List (List UInt8)) (acc : List J) (hl : ns.length = acc.length) (more : List UInt8) (y : J) (fs : List Fd) (h : ∀ f ∈ fs, f.nm ≠ more) (i : Nat) : chkL (mkJ (ns ++ [more]) (acc ++ [y])) fs i = chkL (mkJ ns acc) fs i := by
  refine chkL_same (mkJ_k _ _) (mkJ_k _ _) fs i (fun f hf => ?_)
  rw [getS_make, getS_make, asc_snoc ns acc hl, if_neg (fun e => h f hf e.symm), Option.or_none]
/-- What is no object fails at the first field. -/
theorem chkL_no {j : J} {fs : List Fd} (hk : ¬ j.k = 7) (hf : fs ≠ []) : chkL j fs 0 = 0 := by
  cases fs with
  | nil => exact absurd rfl hf
  | cons f r => rw [chkL, if_neg (fun h => hk h.1)]; rfl
end Go.Proofs.Ytafmnoeljefpaaa.Js
