import Derived.Test.YtafmnoeljefpaaaLed
import Derived.Test.YtafmnoeljefpaaaFi
/- Make of two rows of one's own whose items' memory is old. -/
set_option linter.unusedVariables false
set_option linter.unusedSimpArgs false
namespace Go.Proofs.Ytafmnoeljefpaaa.Js
open Go.RowKit Lex

theorem row_base {w : World} {base base' e s n : Nat} {v : Value} {xs : List Value} (h : w.ownsRow base e s v n xs) (hb : base' ≤ base) : w.ownsRow base' e s v n xs := by
  refine ⟨h.1, ?_⟩
  rcases h.2 with hn | ⟨g, cap, cur, hv, hbg, hq⟩
  · exact .inl hn
  · exact .inr ⟨g, cap, cur, hv, Nat.le_trans hb hbg, hq⟩
theorem row_ge {w : World} {base e s n : Nat} {v : Value} {xs : List Value} (h : w.ownsRow base e s v n xs) {g : Nat} (hg : v.ownBlock = some g) : base ≤ g := by
  rcases h.2 with ⟨rfl, _⟩ | ⟨g', cap, cur, rfl, hb, _⟩
  · cases hg
  · cases hg
    exact hb
theorem make_rows (base : Nat) (wS w : World) (ns : List (List UInt8)) (vs : List Value) (acc : List J) (u v : Value) (hb : Below wS.heap.size wS w) (hbase : base ≤ wS.heap.size)
    (hn : w.ownsRow wS.heap.size 9 1 u ns.length (ns.map strW)) (hi : w.ownsRow wS.heap.size 35 6 v acc.length (vs.flatMap aggC)) (hvl : vs.length = acc.length) (htx : ∀ x ∈ ns, txtB x)
    (hit : ∀ i, i < acc.length → JAt (fun b => base ≤ b) wS 15 (vs.getD i undef) (acc.getD i j0)) (hl : ns.length ≤ 9) (hl2 : acc.length ≤ 9) : Calls Try.prog 6 #[u, v] w (CRet w 16 (mkJ ns acc)) := by
  have hO : Own3 base 15 u v ns vs acc w := ⟨row_base hi hbase, row_base hn hbase, hvl, htx, fun i hlt => (hit i hlt).keep (S' := InT base u v) (fun b h1 h2 => ⟨h1, fun e => by have := row_ge hi e.symm; omega, fun e => by have := row_ge hn e.symm; omega⟩) (fun b _ h2 => hb.block b h2) hb.size⟩
  obtain ⟨ai, ci, rfl⟩ := own_slice hO.irow
  obtain ⟨an, cn, rfl⟩ := own_slice hO.nrow
  exact make5_any Any Any 15 w an cn ai ci ns acc (hO.strs (by omega)) (by omega) hO.its.2.1 hO.its.2.2 (by omega)
end Go.Proofs.Ytafmnoeljefpaaa.Js
