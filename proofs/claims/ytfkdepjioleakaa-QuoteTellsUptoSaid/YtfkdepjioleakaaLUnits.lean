/- The walk of the law QuoteUnits. -/
import Derived.Test.YtfkdepjioleakaaLPlain
import Derived.BigRegion
import Derived.Laws.IdiomStrings
set_option linter.unusedVariables false
set_option linter.unusedSimpArgs false
namespace Go.Proofs.Ytfkdepjioleakaa
open Go.RowKit

/-- Sixteen digits. -/
structure Digits (D : ByteArray) : Prop where
  size : D.size = 16
  dig : ∀ i (h : i < D.size), digL D[i] = some i
theorem low_digits : Digits ⟨#[48, 49, 50, 51, 52, 53, 54, 55, 56, 57, 97, 98, 99, 100, 101, 102]⟩ := by
  refine ⟨rfl, fun i h => ?_⟩
  have : ∀ i : Fin 16, digL ((⟨#[48, 49, 50, 51, 52, 53, 54, 55, 56, 57, 97, 98, 99, 100, 101, 102]⟩ : ByteArray)[i.val]'(i.isLt)) = some i.val := by decide +kernel
  exact this ⟨i, h⟩
theorem great_digits : Digits ⟨#[48, 49, 50, 51, 52, 53, 54, 55, 56, 57, 65, 66, 67, 68, 69, 70]⟩ := by
  refine ⟨rfl, fun i h => ?_⟩
  have : ∀ i : Fin 16, digL ((⟨#[48, 49, 50, 51, 52, 53, 54, 55, 56, 57, 65, 66, 67, 68, 69, 70]⟩ : ByteArray)[i.val]'(i.isLt)) = some i.val := by decide +kernel
  exact this ⟨i, h⟩
/-- A number in four digits. -/
theorem unit_four {d3 d2 d1 d0 : UInt8} {r : Nat} (h3 : digL d3 = some (r / 4096)) (h2 : digL d2 = some (r / 256 % 16)) (h1 : digL d1 = some (r / 16 % 16)) (h0 : digL d0 = some (r % 16)) (hr : r < 65536) (m : List UInt8) :
    unitL (92 :: 117 :: d3 :: d2 :: d1 :: d0 :: m) = some r := by
  unfold unitL
  rw [if_neg (by simp [Lib.hasPrefix, List.isPrefixOf])]
  show digs 0 [d3, d2, d1, d0] = some r
  simp only [digs, h3, h2, h1, h0]
  congr 1
  omega
def unitR (r : Nat) : List UInt8 × Nat × Bool := if 55296 ≤ r ∧ r ≤ 57343 then ([], 0, false) else (enc r, 8, true)
theorem units_told {d3 d2 d1 d0 : UInt8} {r : Nat} (h3 : digL d3 = some (r / 4096)) (h2 : digL d2 = some (r / 256 % 16)) (h1 : digL d1 = some (r / 16 % 16)) (h0 : digL d0 = some (r % 16)) (hr : r < 65536) :
    unqS [34, 92, 117, d3, d2, d1, d0, 34] = unitR r := by
  have hu := unit_four h3 h2 h1 h0 hr [34]
  have hesc : escL [92, 117, d3, d2, d1, d0, 34] = numL [92, 117, d3, d2, d1, d0, 34] := by
    unfold escL
    rw [if_neg (by simp), if_neg (by simp), if_pos (by rfl)]
  unfold unqS unitR
  rw [if_pos (by simp [Lib.hasPrefix, List.isPrefixOf]), show ([34, 92, 117, d3, d2, d1, d0, 34] : List UInt8).drop 1 = [92, 117, d3, d2, d1, d0, 34] from rfl]
  by_cases hs : 55296 ≤ r ∧ r ≤ 57343
  · rw [if_pos hs]
    have hn : numL [92, 117, d3, d2, d1, d0, 34] = (0, 0) := by
      unfold numL
      rw [hu]
      by_cases h : 56320 ≤ r
      · have : isS r = true := by simp [isS]; omega
        simp [this]
      · have k1 : isS r = false := by simp [isS]; omega
        have k2 : isF r = true := by simp [isF]; omega
        have k3 : unitL (([92, 117, d3, d2, d1, d0, 34] : List UInt8).drop 6) = none := by unfold unitL; rw [if_pos (.inl (by simp))]
        simp only [k1, k2, k3]
        rfl
    rw [unqB_esc0 (by simp) (by rw [dec92]) (by rw [hesc, hn])]
  · rw [if_neg hs]
    have k1 : isS r = false := by simp [isS]; omega
    have k2 : isF r = false := by simp [isF]; omega
    have hn : numL [92, 117, d3, d2, d1, d0, 34] = (r, 6) := by
      unfold numL
      rw [hu]
      simp [k1, k2]
    rw [unqB_esc (by simp) (by rw [dec92]) (by rw [hesc, hn]; simp), hesc, hn, show ([92, 117, d3, d2, d1, d0, 34] : List UInt8).drop (r, 6).2 = [34] from rfl, unqB_end (by simp) (by rw [dec_ascii (by decide)]; rfl)]
    simp

theorem run_dig (D : ByteArray) (i : Nat) (z : Int) (h : i < D.size) (hz : z = (i : Int)) (c : UInt8) (hc : D[i] = c) (u : World) : (Instr.index 9 (.string D) (.int .i64 z)).run Try.prog u = .ok (.int .u8 (c.toNat : Int)) u := by
  subst hz
  exact run_byte D i h c.toNat (by rw [hc]) u
theorem i64_and15 (x : Int) (h0 : 0 ≤ x) (h1 : x < 1048576) : bits .and .i64 x 15 = x % 16 :=
  bits_mask .i64 20 (by decide) (fun n a b => by rw [IntKind.wrap_i64]; omega) 4 (by decide) x h0 h1
/-- string of a slice of four bytes, just laid, in a region that draws. -/
theorem run_four (u : World) (a b c d : UInt8) (T : TypeId) :
    (convert 36 9 (.slice (some ⟨u.heap.size, 0, none⟩) 4 4)).run Try.prog (u.alloc (.cells #[.int .u8 (a.toNat : Int), .int .u8 (b.toNat : Int), .int .u8 (c.toNat : Int), .int .u8 (d.toNat : Int)] T)).drew = .ok (.string ⟨#[a, b, c, d]⟩) (u.alloc (.cells #[.int .u8 (a.toNat : Int), .int .u8 (b.toNat : Int), .int .u8 (c.toNat : Int), .int .u8 (d.toNat : Int)] T)).drew := by
  refine run_convert_bytes_back (P := Try.prog) (u.alloc (.cells #[.int .u8 (a.toNat : Int), .int .u8 (b.toNat : Int), .int .u8 (c.toNat : Int), .int .u8 (d.toNat : Int)] T)).drew 36 9 5 ⟨u.heap.size, 0, none⟩ 4 [a, b, c, d] Try.underlying36 Try.underlying5 Try.underlying9 (fun j hj => ?_)
  have : j = 0 ∨ j = 1 ∨ j = 2 ∨ j = 3 := by simp at hj; omega
  rcases this with rfl | rfl | rfl | rfl <;> simp [Addr.add]

set_option maxHeartbeats 2000000 in
set_option maxRecDepth 100000 in
theorem lunits_walk (n : Int) (g : Bool) (w : World) (n0 : -9223372036854775808 ≤ n) (n1 : n ≤ 9223372036854775807) :
    Calls Try.prog 7 #[.int .i64 n, .bool g] w (Ret (.bool true) w) := by
  have pk0 := pickS_nonneg (c := n) (n := 65536) (by decide)
  have pk1 := pickS_lt (c := n) (n := 65536) (by decide)
  have PK := Lib.hid (fun u => pick_any n 65536 u n0 n1 (by decide) (by decide))
  generalize pickS n 65536 = m at *
  obtain ⟨r, rfl⟩ := Int.eq_ofNat_of_zero_le pk0
  have hr : r < 65536 := by omega
  clear pk0 pk1
  cases g with
  | false =>
    have DD := low_digits
    have hD : (⟨#[48, 49, 50, 51, 52, 53, 54, 55, 56, 57, 97, 98, 99, 100, 101, 102]⟩ : ByteArray).size = 16 := rfl
    have g3 := DD.dig (r / 4096) (by omega)
    have g2 := DD.dig (r / 256 % 16) (by omega)
    have g1 := DD.dig (r / 16 % 16) (by omega)
    have g0 := DD.dig (r % 16) (by omega)
    obtain ⟨d3, k3⟩ : ∃ d, (⟨#[48, 49, 50, 51, 52, 53, 54, 55, 56, 57, 97, 98, 99, 100, 101, 102]⟩ : ByteArray)[r / 4096]'(by omega) = d := ⟨_, rfl⟩
    obtain ⟨d2, k2⟩ : ∃ d, (⟨#[48, 49, 50, 51, 52, 53, 54, 55, 56, 57, 97, 98, 99, 100, 101, 102]⟩ : ByteArray)[r / 256 % 16]'(by omega) = d := ⟨_, rfl⟩
    obtain ⟨d1, k1⟩ : ∃ d, (⟨#[48, 49, 50, 51, 52, 53, 54, 55, 56, 57, 97, 98, 99, 100, 101, 102]⟩ : ByteArray)[r / 16 % 16]'(by omega) = d := ⟨_, rfl⟩
    obtain ⟨d0, k0⟩ : ∃ d, (⟨#[48, 49, 50, 51, 52, 53, 54, 55, 56, 57, 97, 98, 99, 100, 101, 102]⟩ : ByteArray)[r % 16]'(by omega) = d := ⟨_, rfl⟩
    rw [k3] at g3
    rw [k2] at g2
    rw [k1] at g1
    rw [k0] at g0
    have x3 := run_dig _ (r / 4096) ((r : Int) / 4096) (by omega) (by omega) d3 k3
    have x2 := run_dig _ (r / 256 % 16) (bits .and .i64 ((r : Int) / 256) 15) (by omega) (by rw [i64_and15 _ (by omega) (by omega)]; omega) d2 k2
    have x1 := run_dig _ (r / 16 % 16) (bits .and .i64 ((r : Int) / 16) 15) (by omega) (by rw [i64_and15 _ (by omega) (by omega)]; omega) d1 k1
    have x0 := run_dig _ (r % 16) (bits .and .i64 (r : Int) 15) (by omega) (by rw [i64_and15 _ (by omega) (by omega)]; omega) d0 k0
    have UQ := Lib.hid (fun u => unquote_at (⟨#[34, 92, 117]⟩ ++ ⟨#[d3, d2, d1, d0]⟩ ++ ⟨#[34]⟩) [34, 92, 117, d3, d2, d1, d0, 34] (by simp) u (by rw [ByteArray.size_append, ByteArray.size_append]; show 3 + 4 + 1 + 8 ≤ _; decide) _ (units_told g3 g2 g1 g0 hr))
    have hcv := fun u T => run_four u d3 d2 d1 d0 T
    clear k3 k2 k1 k0 g3 g2 g1 g0 DD hD
    go_enter Try.func7, Try.ntmps7
    go_wp2_with (go_at_call 10; (with_reducible refine (awake_any _).mono ?_); rintro e w1 ⟨rfl, hb1⟩)
    go_wp2_with (go_at_call 13; (with_reducible refine (PK.out _).mono ?_); rintro e w2 ⟨rfl, rfl⟩)
    go_region
    clear x3 x2 x1 x0 hcv
    have hA : Below w.heap.size w (w1.alloc (.cells #[.int .u8 (d3.toNat : Int), .int .u8 (d2.toNat : Int), .int .u8 (d1.toNat : Int), .int .u8 (d0.toNat : Int)] 5)).drew := (hb1.alloc hb1.size _).drew
    generalize (w1.alloc (.cells #[.int .u8 (d3.toNat : Int), .int .u8 (d2.toNat : Int), .int .u8 (d1.toNat : Int), .int .u8 (d0.toNat : Int)] 5)).drew = wB at *
    generalize (⟨#[34, 92, 117]⟩ ++ ⟨#[d3, d2, d1, d0]⟩ ++ ⟨#[34]⟩ : ByteArray) = X at *
    clear PK n0 n1
    by_cases hsur : 55296 ≤ r ∧ r ≤ 57343
    · rw [show unitR r = ([], 0, false) by unfold unitR; rw [if_pos hsur]] at UQ
      unfold unqV at UQ
      have t1 : decide (55296 ≤ (r : Int)) = true := decide_eq_true (by omega)
      have t2 : decide ((r : Int) ≤ 57343) = true := decide_eq_true (by omega)
      clear hsur hr
      go_wp2_with (go_at_call 15; (with_reducible refine (UQ.out _).mono ?_); rintro e w3 ⟨rfl, hb3⟩)
      go_ret
      exact ⟨rfl, below2 hA hb3⟩
    · rw [show unitR r = (enc r, 8, true) by unfold unitR; rw [if_neg hsur]] at UQ
      unfold unqV at UQ
      have hv : vr r := by unfold vr; omega
      have hcr := fun u T => run_one_rune u r hv T
      have hw32 : wrap32 (r : Int) = r := wrap32_small r (by omega)
      have hb : decide (55296 ≤ (r : Int)) = false ∨ (decide (55296 ≤ (r : Int)) = true ∧ decide ((r : Int) ≤ 57343) = false) := by
        by_cases hx : (55296 : Int) ≤ r
        · right; exact ⟨decide_eq_true hx, decide_eq_false (by omega)⟩
        · left; exact decide_eq_false hx
      clear hsur hr hv
      rcases hb with hb | ⟨hb, hb2⟩
      all_goals
        go_wp2_with (go_at_call 15; (with_reducible refine (UQ.out _).mono ?_); rintro e w3 ⟨rfl, hb3⟩)
        have h3 := below2 hA hb3
        go_ret
        exact ⟨ret_bool (by simp), h3.alloc h3.size _⟩
  | true =>
    have DD := great_digits
    have hD : (⟨#[48, 49, 50, 51, 52, 53, 54, 55, 56, 57, 65, 66, 67, 68, 69, 70]⟩ : ByteArray).size = 16 := rfl
    have g3 := DD.dig (r / 4096) (by omega)
    have g2 := DD.dig (r / 256 % 16) (by omega)
    have g1 := DD.dig (r / 16 % 16) (by omega)
    have g0 := DD.dig (r % 16) (by omega)
    obtain ⟨d3, k3⟩ : ∃ d, (⟨#[48, 49, 50, 51, 52, 53, 54, 55, 56, 57, 65, 66, 67, 68, 69, 70]⟩ : ByteArray)[r / 4096]'(by omega) = d := ⟨_, rfl⟩
    obtain ⟨d2, k2⟩ : ∃ d, (⟨#[48, 49, 50, 51, 52, 53, 54, 55, 56, 57, 65, 66, 67, 68, 69, 70]⟩ : ByteArray)[r / 256 % 16]'(by omega) = d := ⟨_, rfl⟩
    obtain ⟨d1, k1⟩ : ∃ d, (⟨#[48, 49, 50, 51, 52, 53, 54, 55, 56, 57, 65, 66, 67, 68, 69, 70]⟩ : ByteArray)[r / 16 % 16]'(by omega) = d := ⟨_, rfl⟩
    obtain ⟨d0, k0⟩ : ∃ d, (⟨#[48, 49, 50, 51, 52, 53, 54, 55, 56, 57, 65, 66, 67, 68, 69, 70]⟩ : ByteArray)[r % 16]'(by omega) = d := ⟨_, rfl⟩
    rw [k3] at g3
    rw [k2] at g2
    rw [k1] at g1
    rw [k0] at g0
    have x3 := run_dig _ (r / 4096) ((r : Int) / 4096) (by omega) (by omega) d3 k3
    have x2 := run_dig _ (r / 256 % 16) (bits .and .i64 ((r : Int) / 256) 15) (by omega) (by rw [i64_and15 _ (by omega) (by omega)]; omega) d2 k2
    have x1 := run_dig _ (r / 16 % 16) (bits .and .i64 ((r : Int) / 16) 15) (by omega) (by rw [i64_and15 _ (by omega) (by omega)]; omega) d1 k1
    have x0 := run_dig _ (r % 16) (bits .and .i64 (r : Int) 15) (by omega) (by rw [i64_and15 _ (by omega) (by omega)]; omega) d0 k0
    have UQ := Lib.hid (fun u => unquote_at (⟨#[34, 92, 117]⟩ ++ ⟨#[d3, d2, d1, d0]⟩ ++ ⟨#[34]⟩) [34, 92, 117, d3, d2, d1, d0, 34] (by simp) u (by rw [ByteArray.size_append, ByteArray.size_append]; show 3 + 4 + 1 + 8 ≤ _; decide) _ (units_told g3 g2 g1 g0 hr))
    have hcv := fun u T => run_four u d3 d2 d1 d0 T
    clear k3 k2 k1 k0 g3 g2 g1 g0 DD hD
    go_enter Try.func7, Try.ntmps7
    go_wp2_with (go_at_call 10; (with_reducible refine (awake_any _).mono ?_); rintro e w1 ⟨rfl, hb1⟩)
    go_wp2_with (go_at_call 13; (with_reducible refine (PK.out _).mono ?_); rintro e w2 ⟨rfl, rfl⟩)
    go_region
    clear x3 x2 x1 x0 hcv
    have hA : Below w.heap.size w (w1.alloc (.cells #[.int .u8 (d3.toNat : Int), .int .u8 (d2.toNat : Int), .int .u8 (d1.toNat : Int), .int .u8 (d0.toNat : Int)] 5)).drew := (hb1.alloc hb1.size _).drew
    generalize (w1.alloc (.cells #[.int .u8 (d3.toNat : Int), .int .u8 (d2.toNat : Int), .int .u8 (d1.toNat : Int), .int .u8 (d0.toNat : Int)] 5)).drew = wB at *
    generalize (⟨#[34, 92, 117]⟩ ++ ⟨#[d3, d2, d1, d0]⟩ ++ ⟨#[34]⟩ : ByteArray) = X at *
    clear PK n0 n1
    by_cases hsur : 55296 ≤ r ∧ r ≤ 57343
    · rw [show unitR r = ([], 0, false) by unfold unitR; rw [if_pos hsur]] at UQ
      unfold unqV at UQ
      have t1 : decide (55296 ≤ (r : Int)) = true := decide_eq_true (by omega)
      have t2 : decide ((r : Int) ≤ 57343) = true := decide_eq_true (by omega)
      clear hsur hr
      go_wp2_with (go_at_call 15; (with_reducible refine (UQ.out _).mono ?_); rintro e w3 ⟨rfl, hb3⟩)
      go_ret
      exact ⟨rfl, below2 hA hb3⟩
    · rw [show unitR r = (enc r, 8, true) by unfold unitR; rw [if_neg hsur]] at UQ
      unfold unqV at UQ
      have hv : vr r := by unfold vr; omega
      have hcr := fun u T => run_one_rune u r hv T
      have hw32 : wrap32 (r : Int) = r := wrap32_small r (by omega)
      have hb : decide (55296 ≤ (r : Int)) = false ∨ (decide (55296 ≤ (r : Int)) = true ∧ decide ((r : Int) ≤ 57343) = false) := by
        by_cases hx : (55296 : Int) ≤ r
        · right; exact ⟨decide_eq_true hx, decide_eq_false (by omega)⟩
        · left; exact decide_eq_false hx
      clear hsur hr hv
      rcases hb with hb | ⟨hb, hb2⟩
      all_goals
        go_wp2_with (go_at_call 15; (with_reducible refine (UQ.out _).mono ?_); rintro e w3 ⟨rfl, hb3⟩)
        have h3 := below2 hA hb3
        go_ret
        exact ⟨ret_bool (by simp), h3.alloc h3.size _⟩
end Go.Proofs.Ytfkdepjioleakaa
