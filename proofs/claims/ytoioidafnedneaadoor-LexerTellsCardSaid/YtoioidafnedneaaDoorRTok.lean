import Derived.Test.YtoioidafnedneaaDoorRTokSign
import Derived.Test.YtoioidafnedneaaDoorRTokText
import Derived.Test.YtoioidafnedneaaDoorRTokDig
import Derived.Test.YtoioidafnedneaaDoorRTokMinus
import Derived.Test.YtoioidafnedneaaDoorRTokWord
import Derived.Test.YtoioidafnedneaaDoorRTokNone
/- The contract of the document's token, all. -/
set_option linter.unusedVariables false
set_option linter.unusedSimpArgs false
namespace Go.Proofs.YtoioidafnedneaaDoor.Lex
open Go.RowKit

theorem rtoken_any (s : ByteArray) (i : Nat) (w : World) (hs : s.size ≤ 1000000) (hi : i < s.size) : Calls Tryd.prog 19 #[.string s, .int .i64 i] w (Ret (firV (atR (firstL (s.data.toList.drop i)) i)) w) := by
  have HL := Lib.hid (drop_at hi)
  rw [HL.out]
  generalize hc : s[i] = c at *
  cases hg : signB c with
  | true => exact rtok_sign s i w c _ hs hi hc HL hg _ rfl
  | false =>
    by_cases h34 : c.toNat = 34
    · exact rtok_text s i w c _ hs hi hc HL hg h34 _ rfl
    · by_cases h45 : c.toNat = 45
      · exact rtok_minus s i w c _ hs hi hc HL hg h45 _ rfl
      · cases hd : digB c with
        | true => exact rtok_dig s i w c _ hs hi hc HL hg hd _ rfl
        | false =>
          cases hl : letB c with
          | true => exact rtok_word s i w c _ hs hi hc HL hg hl _ rfl
          | false => exact rtok_none s i w c _ hs hi hc HL hg h34 h45 hd hl _ rfl
end Go.Proofs.YtoioidafnedneaaDoor.Lex
