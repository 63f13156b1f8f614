/- The contract of awake: chapter 2's examples come out true. -/
import Derived.Test.YtfkdepjioleakaaText
set_option linter.unusedVariables false
set_option linter.unusedSimpArgs false
namespace Go.Proofs.Ytfkdepjioleakaa
open Go.RowKit

theorem flat3 : flat [97, 34, 1] = [97, 34, 1] := by decide +kernel
theorem vr3 : ∀ r ∈ [97, 34, 1], vr r := by intro r hr; unfold vr; simp at hr; omega
theorem ex_quote : quoV [97, 34, 1] = .tuple #[.string ⟨#[34, 97, 92, 34, 92, 117, 48, 48, 48, 49, 34]⟩, .bool true] := by
  have hw : wholeB [97, 34, 1] = true := by rw [← flat3]; exact wholeB_flat' vr3
  have hq : quoteL [97, 34, 1] = [34, 97, 92, 34, 92, 117, 48, 48, 48, 49, 34] := by
    unfold quoteL
    rw [← flat3, qBody_flat' vr3]
    decide +kernel
  unfold quoV
  rw [hw, if_pos rfl, hq]
theorem enc_smile : enc 128512 = [240, 159, 152, 128] := by decide +kernel
theorem ex_unq : unqV (unqS [34, 92, 117, 100, 56, 51, 100, 92, 117, 100, 101, 48, 48, 34, 120]) = .tuple #[.string ⟨#[240, 159, 152, 128]⟩, .int .i64 14, .bool true] := by
  have he : escL [92, 117, 100, 56, 51, 100, 92, 117, 100, 101, 48, 48, 34, 120] = (128512, 12) := by decide +kernel
  have hu : unqB [92, 117, 100, 56, 51, 100, 92, 117, 100, 101, 48, 48, 34, 120] = some ([240, 159, 152, 128], 13) := by
    rw [unqB_esc (by simp) (by rw [dec92]) (by rw [he]; simp), he]
    rw [show ([92, 117, 100, 56, 51, 100, 92, 117, 100, 101, 48, 48, 34, 120] : List UInt8).drop (128512, 12).2 = [34, 120] from rfl, unqB_end (by simp) (by rw [dec_ascii (by decide)]; rfl)]
    simp [enc_smile]
  unfold unqS
  rw [if_pos (by decide), show ([34, 92, 117, 100, 56, 51, 100, 92, 117, 100, 101, 48, 48, 34, 120] : List UInt8).drop 1 = [92, 117, 100, 56, 51, 100, 92, 117, 100, 101, 48, 48, 34, 120] from rfl, hu]
  rfl
theorem ex_whole : wholeB [240, 159, 152, 128] = true := by
  have h : flat [128512] = [240, 159, 152, 128] := by decide +kernel
  rw [← h]
  exact wholeB_flat' (by intro r hr; unfold vr; simp at hr; omega)
theorem ex_broken : wholeB [255] = false := wholeB_bad (by simp) (by decide +kernel)

set_option maxHeartbeats 1000000 in
set_option maxRecDepth 100000 in
theorem awake_any (w : World) : Calls Try.prog 10 #[] w (Ret (.bool true) w) := by
  have Q1 := Lib.hid (fun w => quote_any ⟨#[97, 34, 1]⟩ w (by decide) (by
    have := qBody_len 3 [97, 34, 1] (by simp)
    show (qBody [97, 34, 1]).length + 16 ≤ _
    simp at this
    omega))
  rw [show (⟨#[97, 34, 1]⟩ : ByteArray).data.toList = [97, 34, 1] from rfl, ex_quote] at Q1
  have U1 := Lib.hid (fun w => unquote_any ⟨#[34, 92, 117, 100, 56, 51, 100, 92, 117, 100, 101, 48, 48, 34, 120]⟩ w (by decide))
  rw [show (⟨#[34, 92, 117, 100, 56, 51, 100, 92, 117, 100, 101, 48, 48, 34, 120]⟩ : ByteArray).data.toList = [34, 92, 117, 100, 56, 51, 100, 92, 117, 100, 101, 48, 48, 34, 120] from rfl, ex_unq] at U1
  have W1 := Lib.hid (fun w => whole_any ⟨#[240, 159, 152, 128]⟩ w (by decide))
  rw [show (⟨#[240, 159, 152, 128]⟩ : ByteArray).data.toList = [240, 159, 152, 128] from rfl, ex_whole] at W1
  have W2 := Lib.hid (fun w => whole_any ⟨#[255]⟩ w (by decide))
  rw [show (⟨#[255]⟩ : ByteArray).data.toList = [255] from rfl, ex_broken] at W2
  go_enter Try.func10, Try.ntmps10
  go_wp2_with (go_at_call 14; (with_reducible refine (Q1.out _).mono ?_); rintro e w1 ⟨rfl, hb1⟩)
  go_wp2_with (go_at_call 15; (with_reducible refine (U1.out _).mono ?_); rintro e w2 ⟨rfl, hb2⟩)
  have hbb2 : Below w.heap.size w w2 := hb1.trans (hb2.mono hb1.size)
  clear hb1 hb2
  go_wp2_with (go_at_call 17; (with_reducible refine (W1.out _).mono ?_); rintro e w3 ⟨rfl, hb3⟩)
  have hbb3 : Below w.heap.size w w3 := hbb2.trans (hb3.mono hbb2.size)
  clear hbb2 hb3
  go_wp2_with (go_at_call 17; (with_reducible refine (W2.out _).mono ?_); rintro e w4 ⟨rfl, hb4⟩)
  go_ret
  exact ⟨rfl, hbb3.trans (hb4.mono hbb3.size)⟩
end Go.Proofs.Ytfkdepjioleakaa
