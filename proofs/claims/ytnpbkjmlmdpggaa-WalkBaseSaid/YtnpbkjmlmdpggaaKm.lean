import Derived.Test.YtnpbkjmlmdpggaaKl
import Derived.Test.YtnpbkjmlmdpggaaKn
/- Right, Same, Base: o/XOm, XOx. -/
set_option linter.unusedVariables false
set_option linter.unusedSimpArgs false
namespace Go.Proofs.Ytnpbkjmlmdpggaa.Od
open Go.RowKit Js Lex

theorem six_of {w : World} {b : Nat} {T : TypeId} {f : Nat × Nat} {c0 c1 c2 c3 c4 c5 : Value} (h : w.heap[b]? = some (.cells #[c0, c1, c2, c3, c4, c5] T f)) :
    w.cell? ⟨b, 0, none⟩ = some c0 ∧ w.cell? ⟨b, 1, none⟩ = some c1 ∧ w.cell? ⟨b, 2, none⟩ = some c2 ∧ w.cell? ⟨b, 3, none⟩ = some c3 ∧ w.cell? ⟨b, 4, none⟩ = some c4 ∧ w.cell? ⟨b, 5, none⟩ = some c5 := by
  have k : ∀ i, w.cell? ⟨b, i, none⟩ = (#[c0, c1, c2, c3, c4, c5] : Array Value)[i]? := fun i => cell_of_row _ _ _ _ _ _ h
  exact ⟨k 0, k 1, k 2, k 3, k 4, k 5⟩

theorem name_of_l (l : List UInt8) (w : World) (h : l.length ≤ 140737488355328) : Calls Try.prog 47 #[.string ⟨l.toArray⟩] w (fun e w' => e = .returned (.bool (Tp.nameB l)) ∧ w = w') := Tp.Name_l l w (by omega)
/-- An order's box. -/
def oC (h : Int) (v : List UInt8) (o u : Int) (nv ev : Value) : Array Value := #[.int .i64 h, .string ⟨v.toArray⟩, .int .i64 o, .int .i64 u, nv, ev]

set_option maxHeartbeats 4000000 in
set_option maxRecDepth 100000 in
theorem right_any (S : Nat → Prop) (v : Value) (x : O) (w : World) (h : OAt S w v x) : Calls Try.prog 34 #[v] w (Ret (.bool (rightO Tp.nameB x)) w) := by
  obtain ⟨an, cn, ae, ce, rfl, -, hv, -, -, hN, hE⟩ := h.open_
  rw [line_right]
  obtain ⟨hd, nm, oi, ui, ns, es⟩ := x
  simp only at hv hN hE ⊢
  have AN := Lib.hid (fun (w' : World) (b : Nat) (h : w'.heap[b]? = some (.cells #[.int .i64 hd, .int .i64 oi, .int .i64 ui] 3 (0, 0))) => nums3 hd oi ui b 3 w' h)
  have NM := Lib.hid (fun (w' : World) => name_of_l nm w' hv)
  have LN := Lib.hid (fun (w' : World) (hb : Below w.heap.size w w') => isLine_any S an ae cn ce ns es w' (hN.below hb (Nat.le_refl _)) (hE.below hb (Nat.le_refl _)))
  clear h hN hE hv
  generalize (numB hd && (numB oi && numB ui)) = N at *
  generalize Tp.nameB nm = M at *
  generalize lineB ns es = L at *
  generalize (⟨nm.toArray⟩ : ByteArray) = sv at *
  generalize ns.length = nl at *
  generalize es.length = el at *
  have B2 := fun o o' => belowTwo w o o'
  have HB2 := Lib.hid B2
  clear B2
  cases N with
  | false =>
    go_enter Try.func34, Try.ntmps34
    go_wp2_with (go_at_call 46; (with_reducible refine (AN.out _ _ (two_new _ _ _)).mono ?_); rintro e1 w1 ⟨rfl, rfl⟩)
    go_ret
    exact ⟨rfl, HB2.out _ _⟩
  | true =>
    cases M with
    | false =>
      go_enter Try.func34, Try.ntmps34
      go_wp2_with (first
        | (go_at_call 46; (with_reducible refine (AN.out _ _ (two_new _ _ _)).mono ?_); rintro e1 w1 ⟨rfl, rfl⟩)
        | (go_at_call 47; (with_reducible refine (NM.out _).mono ?_); rintro e1 w1 ⟨rfl, rfl⟩))
      go_ret
      exact ⟨rfl, HB2.out _ _⟩
    | true =>
      go_enter Try.func34, Try.ntmps34
      go_wp2_with (first
        | (go_at_call 46; (with_reducible refine (AN.out _ _ (two_new _ _ _)).mono ?_); rintro e1 w1 ⟨rfl, rfl⟩)
        | (go_at_call 47; (with_reducible refine (NM.out _).mono ?_); rintro e1 w1 ⟨rfl, rfl⟩)
        | (go_at_call 48; (with_reducible refine (LN.out _ (HB2.out _ _)).mono ?_); rintro e1 w1 ⟨rfl, hb1⟩))
      go_ret
      exact ⟨rfl, (HB2.out _ _).trans (hb1.mono (HB2.out _ _).size)⟩

set_option maxHeartbeats 4000000 in
set_option maxRecDepth 100000 in
theorem base8_any (S : Nat → Prop) (a : Value) (x : O) (w : World) (hx : OAt S w a x) : Calls Try.prog 41 #[a] w (Ret (.int .i64 (baseO x)) w) := by
  obtain ⟨an, cn, ae, ce, rfl, -, -, -, -, hN, -⟩ := hx.open_
  obtain ⟨hd, nm, oi, ui, ns, es⟩ := x
  unfold baseO
  simp only at hN ⊢
  obtain ⟨-, -, hlen⟩ := hN.len
  have HN := Lib.hid hN
  obtain ⟨n, HL⟩ : ∃ n, Hid (ns.length = n) := ⟨_, rfl⟩
  obtain ⟨R, HR⟩ : ∃ R, Hid ((ns.filter (·.rel)).length = R) := ⟨_, rfl⟩
  have HRn : R ≤ n := by rw [← HR.out, ← HL.out]; exact List.length_filter_le _ _
  rw [HR.out]
  rw [HL.out] at HN hlen ⊢
  clear hx hN
  go_enter Try.func41, Try.ntmps41
  go_wp2_with fail
  have HB0 := Lib.hid (belowOne w (.cells #[.int .i64 hd, .string ⟨nm.toArray⟩, .int .i64 oi, .int .i64 ui, .slice an n cn, .slice ae es.length ce] 25))
  go_loopw [9, 3] (fun i c wr => ∃ k m : Nat, k ≤ n ∧ i = .int .i64 k ∧ c = .int .i64 m ∧ Below w.heap.size w wr ∧ Hid (R = m + ((ns.drop k).filter (·.rel)).length)) (fun i _ _ => n - (intOf i).toNat)
  case atStart => exact ⟨0, 0, Nat.zero_le _, rfl, rfl, HB0.out, by show _ = _; rw [List.drop_zero, HR.out]; omega⟩
  case round =>
    clear HB0 HR
    obtain ⟨k, m, hk, rfl, rfl, hB, HK⟩ := hrel
    by_cases hlt : k < n
    · obtain ⟨b, off, rfl, -, hb, -, x0, x1, x2⟩ := HN.out.at_ (k := k) (by rw [HL.out]; exact hlt)
      rw [← hB.cell (p := ⟨b, _, none⟩) hb] at x0 x1 x2
      have HS := Lib.hid (base_step (l := ns) (k := k) (by rw [HL.out]; exact hlt))
      have i1 : (k : Int) < (n : Int) := by omega
      have hm : m ≤ n := by have := HK.out; omega
      have hbr : b < wr.heap.size := Nat.lt_of_lt_of_le hb hB.size
      generalize ns.getD k st0 = X at *
      obtain ⟨xi, xq, xr⟩ := X
      simp only at x0 x1 x2 HS
      clear HN
      cases xr with
      | false =>
        go_wp2_with fail
        go_roundw
        case rel => exact ⟨k + 1, m, by omega, by go_num, rfl, hB.trans ((belowOne _ _).mono hB.size), by show _ = _; rw [HK.out, HS.out]; simp⟩
        case measure => simp [intOf]; omega
      | true =>
        go_wp2_with fail
        go_roundw
        case rel => exact ⟨k + 1, m + 1, by omega, by go_num, by go_num, hB.trans ((belowOne _ _).mono hB.size), by show _ = _; rw [HK.out, HS.out]; simp; omega⟩
        case measure => simp [intOf]; omega
    · have HE : Hid (R = m) := by show _ = _; rw [HK.out, List.drop_of_length_le (by rw [HL.out]; omega)]; rfl
      go_wp2_with fail
      go_ret
      exact ⟨Quo.ret_int (by rw [HE.out]), hB⟩
end Go.Proofs.Ytnpbkjmlmdpggaa.Od
