import Derived.Test.YtoioidafnedneaaDoorLBackS
import Derived.Test.YtoioidafnedneaaDoorLBackB
/- The walk of the law LexerBack: it answers true. -/
namespace Go.Proofs.YtoioidafnedneaaDoor.Lex

theorem back_walk (v : Value) (rs : List Raw) (w : World) (ht : Dec.Tab w) (hr : RawsAt w v rs) : Calls Tryd.prog 4 #[v] w (Ret (.bool true) w) := by
  by_cases h : rs.length ≤ 40
  · exact back_small v rs w ht hr h
  · exact back_big v rs w ht hr (by omega)
end Go.Proofs.YtoioidafnedneaaDoor.Lex
