import Derived.Test.YtalkajdnilmeaaaSc
import Derived.Laws.IdiomStrings
import Derived.Deep.RegionHeld
/- Layer 6: bytes of a string that are laid, changed and turned back; the walks of the laws SealChanged and SealSums. -/
set_option linter.unusedVariables false
set_option linter.unusedSimpArgs false
namespace Go.Proofs.Ytalkajdnilmeaaa.Se
open Go.RowKit

/-- A block that holds bytes, and may be written. -/
structure RowOf (w : World) (b : Nat) (L : List UInt8) : Prop where
  cell : ∀ j (h : j < L.length), w.cell? ⟨b, j, none⟩ = some (.int .u8 (L[j].toNat : Int))
  fro : ∀ j, j < L.length → w.frozen? ⟨b, j, none⟩ = false
theorem heap_new (w : World) (o : Obj) : (w.alloc o).heap[w.heap.size]? = some o := by
  show (w.heap.push o)[w.heap.size]? = _
  simp
theorem row_laid (u : World) (L : List UInt8) : ∃ cap W, (convert 9 33 (.string ⟨L.toArray⟩)).run Try.prog u = .ok (.slice (some ⟨u.heap.size, 0, none⟩) L.length cap) W ∧
    RowOf W u.heap.size L ∧ Below u.heap.size u W := by
  have hr := run_bytes_of_string (P := Try.prog) u 9 33 5 ⟨L.toArray⟩ Try.underlying9 Try.underlying33 Try.underlying5
  rw [bs_size] at hr
  refine ⟨_, _, hr, ⟨fun j hj => ?_, fun j hj => ?_⟩, ((Below.refl _ u).drew).alloc (Nat.le_refl _) _⟩
  · have hh := heap_new u.drew (.cells (bytesRow ⟨L.toArray⟩ (grownCap u L.length 0 5)) 5 ((bytesRow ⟨L.toArray⟩ (grownCap u L.length 0 5)).size, (bytesRow ⟨L.toArray⟩ (grownCap u L.length 0 5)).size + 1))
    rw [show u.drew.heap.size = u.heap.size from rfl] at hh
    unfold World.cell?
    rw [hh]
    show (if _ then _ else _) = _
    rw [if_neg (by simp)]
    unfold bytesRow
    rw [Array.getElem?_append_left (by simpa using hj)]
    simp [hj]
  · have hh := heap_new u.drew (.cells (bytesRow ⟨L.toArray⟩ (grownCap u L.length 0 5)) 5 ((bytesRow ⟨L.toArray⟩ (grownCap u L.length 0 5)).size, (bytesRow ⟨L.toArray⟩ (grownCap u L.length 0 5)).size + 1))
    rw [show u.drew.heap.size = u.heap.size from rfl] at hh
    have hsz : L.length ≤ (bytesRow ⟨L.toArray⟩ (grownCap u L.length 0 5)).size := by
      unfold bytesRow
      simp
    unfold World.frozen?
    rw [hh]
    simp
    omega
theorem RowOf.set {w : World} {b k : Nat} {L : List UInt8} {y : UInt8} (h : RowOf w b L) (hk : k < L.length) : RowOf (w.setCell ⟨b, k, none⟩ (.int .u8 (y.toNat : Int))) b (L.set k y) := by
  refine ⟨fun j hj => ?_, fun j hj => ?_⟩
  · rw [List.length_set] at hj
    by_cases hjk : k = j
    · subst hjk
      rw [World.cell?_setCell_same _ _ _ (h.cell k hk)]
      simp
    · rw [World.cell?_setCell_other _ _ _ _ (by intro e; cases e; exact hjk rfl), h.cell j hj]
      simp [hjk]
  · rw [List.length_set] at hj
    rw [World.frozen?_setCell]
    exact h.fro j hj
theorem RowOf.back {w : World} {b cap : Nat} {L : List UInt8} (h : RowOf w b L) : (convert 33 9 (.slice (some ⟨b, 0, none⟩) L.length cap)).run Try.prog w = .ok (.string ⟨L.toArray⟩) w := by
  refine run_convert_bytes_back (P := Try.prog) w 33 9 5 ⟨b, 0, none⟩ cap L Try.underlying33 Try.underlying5 Try.underlying9 (fun j hj => ?_)
  have := h.cell j hj
  rwa [show (⟨b, 0, none⟩ : Addr).add j = ⟨b, j, none⟩ by simp [Addr.add]; omega]

theorem run_one (u : World) (c : UInt8) (cap : Nat) (T : TypeId) : (convert 33 9 (.slice (some ⟨u.heap.size, 0, none⟩) 1 cap)).run Try.prog (u.alloc (.cells #[.int .u8 (c.toNat : Int)] T)) = .ok (.string ⟨#[c]⟩) (u.alloc (.cells #[.int .u8 (c.toNat : Int)] T)) := by
  refine run_convert_bytes_back (P := Try.prog) (u.alloc (.cells #[.int .u8 (c.toNat : Int)] T)) 33 9 5 ⟨u.heap.size, 0, none⟩ cap [c] Try.underlying33 Try.underlying5 Try.underlying9 (fun j hj => ?_)
  have : j = 0 := by simp at hj; omega
  subst this
  simp [Addr.add]
/-- What a byte is turned to. -/
def turnB (x c : UInt8) : UInt8 := UInt8.ofNat (x.toNat ^^^ (1 + c.toNat % 255))
theorem turn_nat (x c : UInt8) : (turnB x c).toNat = x.toNat ^^^ (1 + c.toNat % 255) := by
  unfold turnB
  rw [UInt8.toNat_ofNat']
  have := x.toNat_lt
  exact Nat.mod_eq_of_lt (Nat.xor_lt_two_pow (n := 8) this (by omega))
theorem turn_ne (x c : UInt8) : x ≠ turnB x c := by
  intro h
  have h1 := congrArg UInt8.toNat h
  rw [turn_nat] at h1
  have h2 := congrArg (x.toNat ^^^ ·) h1
  simp only [Nat.xor_self, ← Nat.xor_assoc, Nat.zero_xor] at h2
  omega
theorem turn_bits (x c : UInt8) : bits .xor .u8 (x.toNat : Int) (1 + (c.toNat : Int) % 255) = ((turnB x c).toNat : Int) := by
  have := u8_xor_nat x.toNat (1 + c.toNat % 255) x.toNat_lt (by omega)
  rw [turn_nat, ← this]
  congr 1

set_option maxHeartbeats 2000000 in
set_option maxRecDepth 100000 in
theorem lchanged_walk (t : List UInt8) (at0 : Int) (c : UInt8) (w : World) (h : t.length ≤ 140737488351232) (a0 : -9223372036854775808 ≤ at0) (a1 : at0 ≤ 9223372036854775807) :
    Calls Try.prog 6 #[.string ⟨t.toArray⟩, .int .i64 at0, .int .u8 c.toNat] w (Ret (.bool true) w) := by
  have C1 := Lib.hid (fun u => seal_l t u (by omega))
  have hq : (⟨(sealS t).toArray⟩ : ByteArray).size = t.length + 9 := by rw [bs_size, sealS_len]
  have hne : (⟨(sealS t).toArray⟩ : ByteArray).toList.isEmpty = false := by
    rw [tl_eq]
    have := sealS_len t
    cases h : sealS t with
    | nil => rw [h] at this; simp at this
    | cons => rfl
  have pk0 := pickS_nonneg (c := at0) (n := (t.length : Int) + 9) (by omega)
  have pk1 := pickS_lt (c := at0) (n := (t.length : Int) + 9) (by omega)
  have PK := Lib.hid (fun u => pick_any at0 ((t.length : Int) + 9) u a0 a1 (by omega) (by omega))
  generalize pickS at0 ((t.length : Int) + 9) = m at *
  obtain ⟨k, rfl⟩ := Int.eq_ofNat_of_zero_le pk0
  have hk : k < (sealS t).length := by rw [sealS_len]; omega
  have HO : Hid (openS ((sealS t).set k (turnB (sealS t)[k] c)) = none) := by
    have e : sealS t = (sealS t).take k ++ (sealS t)[k] :: (sealS t).drop (k + 1) := by
      rw [← List.drop_eq_getElem_cons hk, List.take_append_drop]
    have := open_changed _ _ e (turn_ne (sealS t)[k] c)
    show _ = _
    rw [List.set_eq_take_append_cons_drop, if_pos hk]
    exact this
  have C2 := Lib.hid (fun u => open_none HO.out u (by rw [List.length_set, sealS_len]; omega))
  have C3 := Lib.hid (fun u => open_none (open_more t c) u (by rw [List.length_append, sealS_len]; show _ + 1 ≤ _; omega))
  have C4 := Lib.hid (fun u => open_none (open_short (s := []) (by decide)) u (by decide))
  have HA : Hid ((⟨(sealS t).toArray⟩ : ByteArray) ++ ⟨#[c]⟩ = ⟨(sealS t ++ [c]).toArray⟩) := bs_append (sealS t) [c]
  have RL := Lib.hid (fun u => row_laid u (sealS t))
  have hL := sealS_len t
  clear HO
  have HK : Hid (k < (sealS t).length) := hk
  have HX := Lib.hid (turn_bits (sealS t)[k] c)
  generalize hx : (sealS t)[k] = x at *
  have Hx := Lib.hid hx
  clear hx
  generalize hy : turnB x c = y at *
  clear hy
  rw [hL] at RL
  generalize sealS t ++ [c] = LA at *
  generalize sealS t = L at *
  generalize t.length = n at *
  have hk : k < n + 9 := by omega
  generalize (⟨L.toArray⟩ : ByteArray) = q at *
  generalize (⟨t.toArray⟩ : ByteArray) = s at *
  clear pk0 pk1
  go_enter Try.func6, Try.ntmps6
  go_wp2_with (go_at_call 9; (with_reducible refine (awake_any _).mono ?_); rintro e w1 ⟨rfl, hb1⟩)
  go_wp2_with (go_at_call 14; (with_reducible refine (C1.out _).mono ?_); rintro e w2 ⟨rfl, hb2⟩)
  go_wp2_with (go_at_call 11; (with_reducible refine (PK.out _).mono ?_); rintro e w3 ⟨rfl, rfl⟩)
  obtain ⟨cap, W, hcv, hrow, hbw⟩ := RL.out w2
  have HR := Lib.hid hrow
  rw [hcv]
  clear hcv RL
  have hbs : w2.heap.size < W.heap.size := by
    rcases Nat.lt_or_ge w2.heap.size W.heap.size with h' | h'
    · exact h'
    · exfalso
      have := hrow.cell 0 (by omega)
      simp [World.cell?, Array.getElem?_eq_none h'] at this
  have hcell := hrow.cell k HK.out
  have hfro := hrow.fro k HK.out
  have e : L[k]'HK.out = x := Hx.out
  rw [e] at hcell
  have hbW := below2 (below2 hb1 hb2) hbw
  have hle := (below2 hb1 hb2).size
  clear hrow hb1 hb2 hbw
  generalize w2.heap.size = b at *
  go_wp2_with fail
  rw [HX.out]
  have hS := (HR.out.set (y := y) HK.out).back (cap := cap)
  rw [List.length_set, hL] at hS
  rw [hS]
  have hbX : Below w.heap.size w (W.setCell ⟨b, k, none⟩ (.int .u8 (y.toNat : Int))) := hbW.setCell hle _
  clear hbW hbs hcell hfro hS e
  generalize W.setCell ⟨b, k, none⟩ (.int .u8 (y.toNat : Int)) = W2 at *
  have R1 := fun u : World => run_one u c 1 5
  have hA := HA.out
  have h1 : (⟨#[c]⟩ : ByteArray).size = 1 := rfl
  generalize (⟨#[c]⟩ : ByteArray) = cs at *
  generalize (⟨LA.toArray⟩ : ByteArray) = la at *
  generalize (⟨(L.set k y).toArray⟩ : ByteArray) = lc at *
  clear HX HK Hx HR HA hL PK C1 hk hne
  go_wp2_with (go_at_call 12; (with_reducible refine (C2.out _).mono ?_); rintro e w5 ⟨rfl, hb5⟩)
  have h5 := (below2 hbX hb5).alloc (below2 hbX hb5).size (.cells #[.int .u8 (c.toNat : Int)] 5)
  go_wp2_with (go_at_call 12; (with_reducible refine (C3.out _).mono ?_); rintro e w6 ⟨rfl, hb6⟩)
  go_wp2_with (go_at_call 12; (with_reducible refine (C4.out _).mono ?_); rintro e w7 ⟨rfl, hb7⟩)
  go_ret
  exact ⟨rfl, below2 (below2 h5 hb6) hb7⟩

theorem xor_u64 (h : Nat) (b : UInt8) (hh : h < 4294967296) : bits .xor .u64 (h : Int) (b.toNat : Int) = ((h ^^^ b.toNat : Nat) : Int) :=
  u64_xor_nat h b.toNat (by omega) (Nat.lt_trans b.toNat_lt (by decide))
theorem step_u64 (h : Nat) (b : UInt8) (hh : h < 4294967296) : (IntKind.u64.wrap (bits .xor .u64 (h : Int) (IntKind.u64.wrap (b.toNat : Int)) * 16777619)).tmod 4294967296 = ((stepS h b : Nat) : Int) := by
  have hb := b.toNat_lt
  have hx := xor_lt h b hh
  rw [IntKind.wrap_u64, IntKind.wrap_u64, show (b.toNat : Int) % 18446744073709551616 = (b.toNat : Int) by omega, xor_u64 h b hh, Int.tmod_eq_emod_of_nonneg (by omega)]
  unfold stepS
  omega

set_option maxHeartbeats 2000000 in
set_option maxRecDepth 100000 in
theorem lsums_walk (t m : List UInt8) (at0 : Int) (c : UInt8) (w : World) (h : t.length ≤ 140737488351232) (h2 : m.length ≤ 140737488351232) (a0 : -9223372036854775808 ≤ at0) (a1 : at0 ≤ 9223372036854775807) :
    Calls Try.prog 7 #[.string ⟨t.toArray⟩, .string ⟨m.toArray⟩, .int .i64 at0, .int .u8 c.toNat] w (Ret (.bool true) w) := by
  have C1 := Lib.hid (fun u => sum_l t u (by omega))
  have C2 := Lib.hid (fun u => sum_l (t ++ m) u (by rw [List.length_append]; omega))
  have hA := bs_append t m
  have ht := bs_size t
  have hm := bs_size m
  obtain ⟨T, hT⟩ : ∃ T, T = t.length := ⟨_, rfl⟩
  obtain ⟨M, hM⟩ : ∃ M, M = m.length := ⟨_, rfl⟩
  rw [← hT] at ht
  rw [← hM] at hm
  have hlt0 := sumS_lt t
  have hlt1 := sumS_lt (t ++ m)
  have HS0 : Hid (sumS t = sumS (t ++ m.take 0)) := by show _ = _; simp
  have hT2 : T ≤ 140737488351232 := by omega
  have hM2 : M ≤ 140737488351232 := by omega
  clear h h2
  generalize hH0 : sumS t = H0 at *
  generalize hH1 : sumS (t ++ m) = H1 at *
  have HH0 := Lib.hid hH0
  have HH1 := Lib.hid hH1
  have HT := Lib.hid hT
  have HM := Lib.hid hM
  clear hH0 hH1 hT hM
  generalize hs : (⟨t.toArray⟩ : ByteArray) = s at *
  have HSt := Lib.hid hs
  clear hs
  generalize hr : (⟨m.toArray⟩ : ByteArray) = r at *
  have HRm := Lib.hid hr
  clear hr
  generalize (⟨(t ++ m).toArray⟩ : ByteArray) = q at *
  go_enter Try.func7, Try.ntmps7
  go_wp2_with (go_at_call 9; (with_reducible refine (awake_any _).mono ?_); rintro e w1 ⟨rfl, hb1⟩)
  go_wp2_with (go_at_call 15; (with_reducible refine (C1.out _).mono ?_); rintro e w2 ⟨rfl, rfl⟩)
  go_loop [10, 11] (fun hv i => ∃ k H : Nat, k ≤ M ∧ i = .int .i64 k ∧ hv = .int .u64 H ∧ H < 4294967296 ∧ Hid (H = sumS (t ++ m.take k))) (fun _ i => M - (intOf i).toNat)
  case atStart => exact ⟨0, H0, Nat.zero_le _, rfl, rfl, hlt0, HS0⟩
  case round =>
    obtain ⟨k, H, hk, rfl, rfl, hH, HK⟩ := hrel
    by_cases hlt : k < M
    · have hi : k < r.size := by omega
      have hx : ∀ u : World, (Instr.index 9 (.string r) (.int .i64 k)).run Try.prog u = .ok (.int .u8 r[k].toNat) u := run_byte r k hi r[k].toNat rfl
      have HD : Hid (m.take (k + 1) = m.take k ++ [r[k]]) := by
        show _ = _
        have := take_at hi
        simp only [← HRm.out] at this ⊢
        simpa using this
      generalize r[k] = x at *
      have HX := Lib.hid (step_u64 H x hH)
      have hst := stepS_lt H x
      go_wp2_with fail
      go_round
      case rel => exact ⟨k + 1, stepS H x, by omega, by go_num, by rw [HX.out], hst, by show _ = _; rw [HD.out, ← List.append_assoc, sumS_snoc, HK.out]⟩
      case measure => simp [intOf]; omega
    · have HE : Hid (H = H1) := by
        show _ = _
        rw [HK.out, List.take_of_length_le (by rw [← HM.out]; omega), HH1.out]
      obtain rfl : H = H1 := HE.out
      clear HE HK HH1 hlt1
      cases hemp : s.toList.isEmpty with
      | true =>
        go_wp2_with (go_at_call 15; (with_reducible refine (C2.out _).mono ?_); rintro e w3 ⟨rfl, rfl⟩)
        go_ret
        exact ⟨rfl, hb1⟩
      | false =>
        have hT0 : 0 < T := by
          rw [← HSt.out, tl_eq] at hemp
          rw [HT.out]
          cases t with
          | nil => simp at hemp
          | cons => simp
        have pk0 := pickS_nonneg (c := at0) (n := (T : Int)) (by omega)
        have pk1 := pickS_lt (c := at0) (n := (T : Int)) (by omega)
        have PK := Lib.hid (fun u => pick_any at0 (T : Int) u a0 a1 (by omega) (by omega))
        generalize pickS at0 (T : Int) = z at *
        obtain ⟨d, rfl⟩ := Int.eq_ofNat_of_zero_le pk0
        have hd : d < T := by omega
        have hdt : d < t.length := by rw [← HT.out]; exact hd
        have C3 := Lib.hid (fun u => sum_l (t.set d (turnB t[d] c)) u (by rw [List.length_set, ← HT.out]; omega))
        have hne : ¬ (sumS (t.set d (turnB t[d] c)) = H0) := by
          intro hh
          rw [← HH0.out] at hh
          have e : t = t.take d ++ t[d] :: t.drop (d + 1) := by
            rw [← List.drop_eq_getElem_cons hdt, List.take_append_drop]
          rw [List.set_eq_take_append_cons_drop, if_pos hdt] at hh
          conv at hh => rhs; rw [e]
          exact turn_ne _ _ (sumS_unlike _ _ hh).symm
        have RL := Lib.hid (fun u => row_laid u t)
        rw [HSt.out, ← HT.out] at RL
        have HD : Hid (d < t.length) := hdt
        have HX := Lib.hid (turn_bits t[d] c)
        generalize hx : t[d] = x at *
        have Hx := Lib.hid hx
        clear hx
        generalize hy : turnB x c = y at *
        clear hy pk0 pk1
        have hlt2 := sumS_lt (t.set d y)
        generalize sumS (t.set d y) = H2 at *
        have hne2 : ((H2 : Int) != (H0 : Int)) = true := by simp; omega
        clear hdt
        go_wp2_with (go_at_call 15; (with_reducible refine (C2.out _).mono ?_); rintro e w3 ⟨rfl, rfl⟩)
        obtain ⟨cap, W, hcv, hrow, hbw⟩ := RL.out w1
        have HR := Lib.hid hrow
        rw [hcv]
        have hbs : w1.heap.size < W.heap.size := by
          rcases Nat.lt_or_ge w1.heap.size W.heap.size with h' | h'
          · exact h'
          · exfalso
            have := hrow.cell d HD.out
            simp [World.cell?, Array.getElem?_eq_none h'] at this
        have hcell := hrow.cell d HD.out
        have hfro := hrow.fro d HD.out
        have e : t[d]'HD.out = x := Hx.out
        rw [e] at hcell
        have hbW := below2 hb1 hbw
        have hle := hb1.size
        clear hrow hbw hcv RL
        generalize w1.heap.size = b at *
        go_wp2_with (go_at_call 11; (with_reducible refine (PK.out _).mono ?_); rintro e w3 ⟨rfl, rfl⟩)
        rw [HX.out]
        have hS := (HR.out.set (y := y) HD.out).back (cap := cap)
        rw [List.length_set, ← HT.out] at hS
        rw [hS]
        have hbX : Below w.heap.size w (W.setCell ⟨b, d, none⟩ (.int .u8 (y.toNat : Int))) := hbW.setCell hle _
        clear hbW hbs hcell hfro hS e
        generalize W.setCell ⟨b, d, none⟩ (.int .u8 (y.toNat : Int)) = W2 at *
        generalize (⟨(t.set d y).toArray⟩ : ByteArray) = lc at *
        go_wp2_with (first | (go_at_call 15; (with_reducible refine (C3.out _).mono ?_); rintro e w5 ⟨rfl, rfl⟩) | (go_at_call 15; (with_reducible refine (C1.out _).mono ?_); rintro e w6 ⟨rfl, rfl⟩))
        go_ret
        exact ⟨rfl, hbX⟩
end Go.Proofs.Ytalkajdnilmeaaa.Se
