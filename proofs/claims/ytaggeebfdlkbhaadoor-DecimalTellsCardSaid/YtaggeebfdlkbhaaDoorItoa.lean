/- The library's contracts as they are used here: Itoa, Repeat, the cutting of texts; the table that Itoa reads stays as it is. -/
import Derived.Test.YtaggeebfdlkbhaaDoorInt
import Derived.Test.YtaggeebfdlkbhaaDoorShelf
import Derived.Lib.QuietBelow
import Derived.Lib.AppendIntMem
import Derived.WalkSmall
namespace Go.Proofs.YtaggeebfdlkbhaaDoor
open Go.RowKit

def Tab (w : World) : Prop := Lib.TabIs Tryd.prog w "internal/strconv.uint64pow10" .u64 Lib.pow10Tab
theorem gpow : Tryd.prog.globalNamed "internal/strconv.uint64pow10" = some 0 := by kernel_rfl
theorem Tab.below {w w' : World} (h : Tab w) (hb : Below w.heap.size w w') : Tab w' := by
  unfold Tab Lib.TabIs at h ⊢
  refine var?_below hb gpow ?_ h
  rcases Nat.lt_or_ge 0 w.heap.size with hlt | hge
  · exact hlt
  · exfalso
    unfold World.var? at h
    simp only [gpow, Option.bind_some, Array.getElem?_eq_none hge] at h
    cases h
theorem Tab.alloc {w : World} (h : Tab w) (o : Obj) : Tab (w.alloc o) := h.below ((Below.refl _ _).alloc (Nat.le_refl _) o)

theorem itoa_any (n : Int) (w : World) (ht : Tab w) (h0 : -9223372036854775808 ≤ n) (h1 : n ≤ 9223372036854775807) :
    Calls Tryd.prog 34 #[.int .i64 n] w (Ret (.string ⟨(Lib.itoa n).toArray⟩) w) :=
  (Tryd.strconv_Itoa n h0 h1 w ht).mono fun _ _ ⟨he, k, os, hw⟩ => ⟨he, by rw [hw]; exact Lib.below_grow _ _ (Nat.le_refl _) _ _⟩

def zeros (k : Nat) : List UInt8 := List.replicate k 48
theorem zeros_length (k : Nat) : (zeros k).length = k := by simp [zeros]
theorem repeatL_zero (c : Nat) : Lib.repeatL [48] c = zeros c := by
  have := Lib.repeatL_replicate 48 1 c
  simpa [zeros] using this
theorem repeat_any (c : Nat) (w : World) (hc : c ≤ 100) :
    Calls Tryd.prog 35 #[.string ⟨#[48]⟩, .int .i64 c] w (Ret (.string ⟨(zeros c).toArray⟩) w) :=
  (Tryd.strings_Repeat ⟨#[48]⟩ c w (by omega) (by show 1 * c ≤ _; omega)).mono fun _ _ ⟨he, hb⟩ => ⟨by rw [he, ← repeatL_zero], hb⟩

theorem repeat_int (n : Int) (w : World) (h0 : 0 ≤ n) (hn : n ≤ 100) :
    Calls Tryd.prog 35 #[.string ⟨#[48]⟩, .int .i64 n] w (Ret (.string ⟨(zeros n.toNat).toArray⟩) w) := by
  obtain ⟨c, rfl⟩ := Int.eq_ofNat_of_zero_le h0
  exact repeat_any c w (by omega)

set_option maxHeartbeats 400000 in
theorem digits_any (m e : Int) (w : World) (ht : Tab w) (h0 : -1000000000000000 ≤ m) (h1 : m ≤ 1000000000000000) :
    Calls Tryd.prog 36 #[.agg #[.int .i64 m, .int .i64 e]] w (Ret (.string ⟨(Lib.decDigits m.natAbs).toArray⟩) w) := by
  have hd : Lib.itoa (max m (-m)) = Lib.decDigits m.natAbs := by
    unfold Lib.itoa; rw [if_neg (by omega), show (max m (-m)).toNat = m.natAbs by omega]
  have HD := Lib.hid hd
  clear hd
  have HT := Lib.hid ht
  clear ht
  go_enter Tryd.func36, Tryd.ntmps36
  go_wp2_with fail
  (with_reducible refine (itoa_any _ _ (HT.out.alloc _) (by omega) (by omega)).mono ?_)
  rintro e1 w1 ⟨rfl, hb⟩
  rw [HD.out]
  go_wp2
  go_ret
  exact ⟨rfl, below_call hb⟩
end Go.Proofs.YtaggeebfdlkbhaaDoor
