import Derived.Test.YtcpggmdiojaalaaGreatDoorMS
import Derived.Laws.IdiomStrings
import Derived.Deep.RegionHeld
/- Layer 6: bytes of a string that are laid, changed and turned back; the walks of the laws SealChanged and SealSums. -/
set_option linter.unusedVariables false
set_option linter.unusedSimpArgs false
namespace Go.Proofs.YtcpggmdiojaalaaGreatDoor.Se
open Go.RowKit

/-- A block that holds bytes, and may be written. -/
structure RowOf (w : World) (b : Nat) (L : List UInt8) : Prop where
  cell : ∀ j (h : j < L.length), w.cell? ⟨b, j, none⟩ = some (.int .u8 (L[j].toNat : Int))
  fro : ∀ j, j < L.length → w.frozen? ⟨b, j, none⟩ = false
theorem heap_new (w : World) (o : Obj) : (w.alloc o).heap[w.heap.size]? = some o := by
  show (w.heap.push o)[w.heap.size]? = _
  simp
theorem row_laid (u : World) (L : List UInt8) : ∃ cap W, (convert 9 62 (.string ⟨L.toArray⟩)).run Tryz.prog u = .ok (.slice (some ⟨u.heap.size, 0, none⟩) L.length cap) W ∧
    RowOf W u.heap.size L ∧ Below u.heap.size u W := by
  have hr := run_bytes_of_string (P := Tryz.prog) u 9 62 5 ⟨L.toArray⟩ Tryz.underlying9 Tryz.underlying62 Tryz.underlying5
  rw [bs_size] at hr
  refine ⟨_, _, hr, ⟨fun j hj => ?_, fun j hj => ?_⟩, ((Below.refl _ u).drew).alloc (Nat.le_refl _) _⟩
  · have hh := heap_new u.drew (.cells (bytesRow ⟨L.toArray⟩ (grownCap u L.length 0 5)) 5 ((bytesRow ⟨L.toArray⟩ (grownCap u L.length 0 5)).size, (bytesRow ⟨L.toArray⟩ (grownCap u L.length 0 5)).size + 1))
    rw [show u.drew.heap.size = u.heap.size from rfl] at hh
    unfold World.cell?
    rw [hh]
    show (if _ then _ else _) = _
    rw [if_neg (by simp)]
    unfold bytesRow
    rw [Array.getElem?_append_left (by simpa using hj)]
    simp [hj]
  · have hh := heap_new u.drew (.cells (bytesRow ⟨L.toArray⟩ (grownCap u L.length 0 5)) 5 ((bytesRow ⟨L.toArray⟩ (grownCap u L.length 0 5)).size, (bytesRow ⟨L.toArray⟩ (grownCap u L.length 0 5)).size + 1))
    rw [show u.drew.heap.size = u.heap.size from rfl] at hh
    have hsz : L.length ≤ (bytesRow ⟨L.toArray⟩ (grownCap u L.length 0 5)).size := by
      unfold bytesRow
      simp
    unfold World.frozen?
    rw [hh]
    simp
    omega
theorem RowOf.set {w : World} {b k : Nat} {L : List UInt8} {y : UInt8} (h : RowOf w b L) (hk : k < L.length) : RowOf (w.setCell ⟨b, k, none⟩ (.int .u8 (y.toNat : Int))) b (L.set k y) := by
  refine ⟨fun j hj => ?_, fun j hj => ?_⟩
  · rw [List.length_set] at hj
    by_cases hjk : k = j
    · subst hjk
      rw [World.cell?_setCell_same _ _ _ (h.cell k hk)]
      simp
    · rw [World.cell?_setCell_other _ _ _ _ (by intro e; cases e; exact hjk rfl), h.cell j hj]
      simp [hjk]
  · rw [List.length_set] at hj
    rw [World.frozen?_setCell]
    exact h.fro j hj
theorem RowOf.back {w : World} {b cap : Nat} {L : List UInt8} (h : RowOf w b L) : (convert 62 9 (.slice (some ⟨b, 0, none⟩) L.length cap)).run Tryz.prog w = .ok (.string ⟨L.toArray⟩) w := by
  refine run_convert_bytes_back (P := Tryz.prog) w 62 9 5 ⟨b, 0, none⟩ cap L Tryz.underlying62 Tryz.underlying5 Tryz.underlying9 (fun j hj => ?_)
  have := h.cell j hj
  rwa [show (⟨b, 0, none⟩ : Addr).add j = ⟨b, j, none⟩ by simp [Addr.add]; omega]

theorem run_one (u : World) (c : UInt8) (cap : Nat) (T : TypeId) : (convert 62 9 (.slice (some ⟨u.heap.size, 0, none⟩) 1 cap)).run Tryz.prog (u.alloc (.cells #[.int .u8 (c.toNat : Int)] T)) = .ok (.string ⟨#[c]⟩) (u.alloc (.cells #[.int .u8 (c.toNat : Int)] T)) := by
  refine run_convert_bytes_back (P := Tryz.prog) (u.alloc (.cells #[.int .u8 (c.toNat : Int)] T)) 62 9 5 ⟨u.heap.size, 0, none⟩ cap [c] Tryz.underlying62 Tryz.underlying5 Tryz.underlying9 (fun j hj => ?_)
  have : j = 0 := by simp at hj; omega
  subst this
  simp [Addr.add]
/-- What a byte is turned to. -/
def turnB (x c : UInt8) : UInt8 := UInt8.ofNat (x.toNat ^^^ (1 + c.toNat % 255))
theorem turn_nat (x c : UInt8) : (turnB x c).toNat = x.toNat ^^^ (1 + c.toNat % 255) := by
  unfold turnB
  rw [UInt8.toNat_ofNat']
  have := x.toNat_lt
  exact Nat.mod_eq_of_lt (Nat.xor_lt_two_pow (n := 8) this (by omega))
theorem turn_ne (x c : UInt8) : x ≠ turnB x c := by
  intro h
  have h1 := congrArg UInt8.toNat h
  rw [turn_nat] at h1
  have h2 := congrArg (x.toNat ^^^ ·) h1
  simp only [Nat.xor_self, ← Nat.xor_assoc, Nat.zero_xor] at h2
  omega
theorem turn_bits (x c : UInt8) : bits .xor .u8 (x.toNat : Int) (1 + (c.toNat : Int) % 255) = ((turnB x c).toNat : Int) := by
  have := u8_xor_nat x.toNat (1 + c.toNat % 255) x.toNat_lt (by omega)
  rw [turn_nat, ← this]
  congr 1

theorem xor_u64 (h : Nat) (b : UInt8) (hh : h < 4294967296) : bits .xor .u64 (h : Int) (b.toNat : Int) = ((h ^^^ b.toNat : Nat) : Int) :=
  u64_xor_nat h b.toNat (by omega) (Nat.lt_trans b.toNat_lt (by decide))
theorem step_u64 (h : Nat) (b : UInt8) (hh : h < 4294967296) : (IntKind.u64.wrap (bits .xor .u64 (h : Int) (IntKind.u64.wrap (b.toNat : Int)) * 16777619)).tmod 4294967296 = ((stepS h b : Nat) : Int) := by
  have hb := b.toNat_lt
  have hx := xor_lt h b hh
  rw [IntKind.wrap_u64, IntKind.wrap_u64, show (b.toNat : Int) % 18446744073709551616 = (b.toNat : Int) by omega, xor_u64 h b hh, Int.tmod_eq_emod_of_nonneg (by omega)]
  unfold stepS
  omega

end Go.Proofs.YtcpggmdiojaalaaGreatDoor.Se
