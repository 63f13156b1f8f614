import Derived.Test.YtcpggmdiojaalaaGreatDoorMAa
import Derived.Test.YtcpggmdiojaalaaGreatDoorRd7
import Derived.Laws.EntriesVeiled
import Derived.Test.YtcpggmdiojaalaaGreatDoorMOc
import Derived.Test.YtcpggmdiojaalaaGreatDoorMOd
import Derived.Test.YtcpggmdiojaalaaGreatDoorME
/- Layer 9: states in memory; the contracts of areNums, Right and Newer. -/
set_option linter.unusedVariables false
set_option linter.unusedSimpArgs false
namespace Go.Proofs.YtcpggmdiojaalaaGreatDoor.Sta
open Go.RowKit Js Lex Od

def sC (x : S9) : Array Value := #[.int .i64 x.h, .int .i64 x.b, .string ⟨x.v.toArray⟩, .int .i64 x.o, .int .i64 x.u, .bool x.lv, .int .i64 x.n, .int .i64 x.q, .bool x.dr, .int .i64 x.ac]
def sV (x : S9) : Value := .agg (sC x)
/-- A state that Go can hold. -/
structure S9.ok (x : S9) : Prop where
  h : i64B x.h
  b : i64B x.b
  o : i64B x.o
  u : i64B x.u
  n : i64B x.n
  q : i64B x.q
  ac : i64B x.ac
  v : x.v.length ≤ 140737488355328
theorem s0_ok : s0.ok := by
  have z : i64B 0 := ⟨by decide, by decide⟩
  exact ⟨z, z, z, z, z, z, z, by simp [s0]⟩
theorem numB_i64 {n : Int} (h : numB n = true) : i64B n := by
  have := numB_iff h
  unfold i64B
  omega
theorem ok_right {nm : List UInt8 → Bool} (hn : NameOk nm) {x : S9} (h : rightT nm x = true) : x.ok := by
  obtain ⟨h1, h2, h3, h4, h5, h6, h7, h8⟩ := rightT_parts h
  exact ⟨numB_i64 h1, numB_i64 h2, numB_i64 h3, numB_i64 h4, numB_i64 h5, numB_i64 h6, numB_i64 h7, by have := (hn _ h8).2; omega⟩

/-- A block of ten cells. -/
theorem ten_of {w : World} {b : Nat} {T : TypeId} {f : Nat × Nat} {c0 c1 c2 c3 c4 c5 c6 c7 c8 c9 : Value} (h : w.heap[b]? = some (.cells #[c0, c1, c2, c3, c4, c5, c6, c7, c8, c9] T f)) :
    w.cell? ⟨b, 0, none⟩ = some c0 ∧ w.cell? ⟨b, 1, none⟩ = some c1 ∧ w.cell? ⟨b, 2, none⟩ = some c2 ∧ w.cell? ⟨b, 3, none⟩ = some c3 ∧ w.cell? ⟨b, 4, none⟩ = some c4 ∧ w.cell? ⟨b, 5, none⟩ = some c5 ∧ w.cell? ⟨b, 6, none⟩ = some c6 ∧ w.cell? ⟨b, 7, none⟩ = some c7 ∧ w.cell? ⟨b, 8, none⟩ = some c8 ∧ w.cell? ⟨b, 9, none⟩ = some c9 := by
  have k : ∀ i, w.cell? ⟨b, i, none⟩ = (#[c0, c1, c2, c3, c4, c5, c6, c7, c8, c9] : Array Value)[i]? := fun i => cell_of_row _ _ _ _ _ _ h
  exact ⟨k 0, k 1, k 2, k 3, k 4, k 5, k 6, k 7, k 8, k 9⟩
theorem free_ten {w : World} {b : Nat} {cs : Array Value} {T : TypeId} (h : w.heap[b]? = some (.cells cs T (0, 0))) : w.frozen? ⟨b, 0, none⟩ = false ∧ w.frozen? ⟨b, 1, none⟩ = false ∧ w.frozen? ⟨b, 2, none⟩ = false ∧ w.frozen? ⟨b, 3, none⟩ = false ∧ w.frozen? ⟨b, 4, none⟩ = false ∧ w.frozen? ⟨b, 5, none⟩ = false ∧ w.frozen? ⟨b, 6, none⟩ = false ∧ w.frozen? ⟨b, 7, none⟩ = false ∧ w.frozen? ⟨b, 8, none⟩ = false ∧ w.frozen? ⟨b, 9, none⟩ = false := ⟨free_of h 0, free_of h 1, free_of h 2, free_of h 3, free_of h 4, free_of h 5, free_of h 6, free_of h 7, free_of h 8, free_of h 9⟩
theorem below_ten {w w1 : World} {b : Nat} (h : Below w.heap.size w w1) (hb : w.heap.size ≤ b) (u0 u1 u2 u3 u4 u5 u6 u7 u8 u9 : Value) : Below w.heap.size w ((((((((((w1.setCell ⟨b, 0, none⟩ u0).setCell ⟨b, 1, none⟩ u1).setCell ⟨b, 2, none⟩ u2).setCell ⟨b, 3, none⟩ u3).setCell ⟨b, 4, none⟩ u4).setCell ⟨b, 5, none⟩ u5).setCell ⟨b, 6, none⟩ u6).setCell ⟨b, 7, none⟩ u7).setCell ⟨b, 8, none⟩ u8).setCell ⟨b, 9, none⟩ u9) :=
  (((((((((h.setCell (p := ⟨b, 0, none⟩) hb u0).setCell (p := ⟨b, 1, none⟩) hb u1).setCell (p := ⟨b, 2, none⟩) hb u2).setCell (p := ⟨b, 3, none⟩) hb u3).setCell (p := ⟨b, 4, none⟩) hb u4).setCell (p := ⟨b, 5, none⟩) hb u5).setCell (p := ⟨b, 6, none⟩) hb u6).setCell (p := ⟨b, 7, none⟩) hb u7).setCell (p := ⟨b, 8, none⟩) hb u8).setCell (p := ⟨b, 9, none⟩) hb u9
theorem nums7 (x y z u v s t : Int) (b c : Nat) (w : World) (h : w.heap[b]? = some (.cells #[.int .i64 x, .int .i64 y, .int .i64 z, .int .i64 u, .int .i64 v, .int .i64 s, .int .i64 t] 3 (0, 0))) (A : ∀ (b o n c : Nat) (l : List Int) (w : World), l.length = n → n ≤ 64 → (∀ q, q < n → w.cell? ⟨b, o + q, none⟩ = some (.int .i64 (l.getD q 0))) → Calls Tryz.prog 76 #[.slice (some ⟨b, o, none⟩) n c] w (fun e w' => e = .returned (.bool (l.all numB)) ∧ w = w')) :
    Calls Tryz.prog 76 #[.slice (some ⟨b, 0, none⟩) 7 c] w (fun e w' => e = .returned (.bool (numB x && (numB y && (numB z && (numB u && (numB v && (numB s && numB t))))))) ∧ w = w') := by
  have := A b 0 7 c [x, y, z, u, v, s, t] w rfl (by omega) (lit_cells [x, y, z, u, v, s, t] h)
  rwa [show [x, y, z, u, v, s, t].all numB = (numB x && (numB y && (numB z && (numB u && (numB v && (numB s && numB t)))))) by simp] at this

set_option maxHeartbeats 1000000 in
set_option maxRecDepth 100000 in
theorem areNums9_any (b o n c : Nat) (l : List Int) (w : World) (hl : l.length = n) (hn : n ≤ 64) (hc : ∀ q, q < n → w.cell? ⟨b, o + q, none⟩ = some (.int .i64 (l.getD q 0))) :
    Calls Tryz.prog 76 #[.slice (some ⟨b, o, none⟩) n c] w (fun e w' => e = .returned (.bool (l.all numB)) ∧ w = w') := by
  have HC := Lib.hid hc
  have HL := Lib.hid hl
  obtain ⟨R, HR⟩ : ∃ R, Hid (l.all numB = R) := ⟨_, rfl⟩
  rw [HR.out]
  clear hc hl
  go_enter Tryz.func76, Tryz.ntmps76
  go_wp2_with fail
  go_loopw [7] (fun i wr => ∃ q : Nat, q ≤ n ∧ i = .int .i64 q ∧ w = wr ∧ Hid (R = (l.drop q).all numB)) (fun i _ => n - (intOf i).toNat)
  case atStart => exact ⟨0, Nat.zero_le _, rfl, rfl, HR.out.symm⟩
  case round =>
    obtain ⟨q, hq, rfl, rfl, HK⟩ := hrel
    by_cases hlt : q < n
    · have x1 := HC.out q hlt
      have HS : Hid ((l.drop q).all numB = (numB (l.getD q 0) && (l.drop (q + 1)).all numB)) := by show _ = _; rw [drop_getD0 0 (by rw [HL.out]; exact hlt), List.all_cons]
      have i1 : (q : Int) < (n : Int) := by omega
      clear HC
      generalize l.getD q 0 = X at *
      by_cases h0 : X < 0
      · have HB : Hid (numB X = false) := by show _ = _; unfold Od.numB; simp; omega
        go_wp2_with fail
        go_ret
        exact ⟨Quo.ret_bool (by rw [HK.out, HS.out, HB.out]; rfl), rfl⟩
      · by_cases h1 : 1000000000 < X
        · have HB : Hid (numB X = false) := by show _ = _; unfold Od.numB; simp; omega
          go_wp2_with fail
          go_ret
          exact ⟨Quo.ret_bool (by rw [HK.out, HS.out, HB.out]; rfl), rfl⟩
        · have HB : Hid (numB X = true) := by show _ = _; unfold Od.numB; simp; omega
          go_wp2_with fail
          go_roundw
          case rel => exact ⟨q + 1, by omega, by go_num, trivial, by show _ = _; rw [HK.out, HS.out, HB.out]; simp⟩
          case measure => simp [intOf]; omega
    · have HE : Hid (R = true) := by show _ = _; rw [HK.out, List.drop_of_length_le (by rw [HL.out]; omega)]; rfl
      go_wp2_with fail
      go_ret
      exact ⟨Quo.ret_bool (by rw [HE.out]), rfl⟩


set_option maxHeartbeats 4000000 in
set_option maxRecDepth 100000 in
theorem right9_any (x : S9) (w : World) (hx : x.ok) : Calls Tryz.prog 36 #[sV x] w (Ret (.bool (rightT Tp.nameB x)) w) := by
  have hv := hx.v
  unfold sV sC rightT numsB
  obtain ⟨hd, bo, nm, od, up, lv, nd, sq, dr, ac⟩ := x
  simp only at hv ⊢
  have AN := Lib.hid (fun (w' : World) (b : Nat) (h : w'.heap[b]? = some (.cells #[.int .i64 hd, .int .i64 bo, .int .i64 od, .int .i64 up, .int .i64 nd, .int .i64 sq, .int .i64 ac] 3 (0, 0))) => nums7 hd bo od up nd sq ac b 7 w' h areNums9_any)
  have NM := Lib.hid (fun (w' : World) => name_of_l nm w' hv)
  have HB2 := Lib.hid (fun o o' => belowTwo w o o')
  have HSQ := Lib.hid (show (numB hd && (numB bo && (numB od && (numB up && (numB nd && (numB sq && numB ac)))))) = true → 0 ≤ sq from fun h => by simp only [Bool.and_eq_true] at h; exact (numB_iff h.2.2.2.2.2.1).1)
  clear hx hv
  generalize (numB hd && (numB bo && (numB od && (numB up && (numB nd && (numB sq && numB ac)))))) = N at *
  generalize Tp.nameB nm = M at *
  generalize (⟨nm.toArray⟩ : ByteArray) = sv at *
  cases N with
  | false =>
    go_enter Tryz.func36, Tryz.ntmps36
    go_wp2_with (go_at_call 76; (with_reducible refine (AN.out _ _ (two_new _ _ _)).mono ?_); rintro e1 w1 ⟨rfl, rfl⟩)
    go_ret
    exact ⟨rfl, HB2.out _ _⟩
  | true =>
    have hs0 := HSQ.out rfl
    clear HSQ
    cases M with
    | false =>
      go_enter Tryz.func36, Tryz.ntmps36
      go_wp2_with (first
        | (go_at_call 76; (with_reducible refine (AN.out _ _ (two_new _ _ _)).mono ?_); rintro e1 w1 ⟨rfl, rfl⟩)
        | (go_at_call 53; (with_reducible refine (NM.out _).mono ?_); rintro e1 w1 ⟨rfl, rfl⟩))
      go_ret
      exact ⟨rfl, HB2.out _ _⟩
    | true =>
      by_cases he : sq % 2 = 0
      · rw [decide_eq_true he]
        cases lv <;> cases dr
        all_goals
          go_enter Tryz.func36, Tryz.ntmps36
          go_wp2_with (first
            | (go_at_call 76; (with_reducible refine (AN.out _ _ (two_new _ _ _)).mono ?_); rintro e1 w1 ⟨rfl, rfl⟩)
            | (go_at_call 53; (with_reducible refine (NM.out _).mono ?_); rintro e1 w1 ⟨rfl, rfl⟩))
          go_ret
          exact ⟨rfl, HB2.out _ _⟩
      · rw [decide_eq_false he]
        go_enter Tryz.func36, Tryz.ntmps36
        go_wp2_with (first
          | (go_at_call 76; (with_reducible refine (AN.out _ _ (two_new _ _ _)).mono ?_); rintro e1 w1 ⟨rfl, rfl⟩)
          | (go_at_call 53; (with_reducible refine (NM.out _).mono ?_); rintro e1 w1 ⟨rfl, rfl⟩))
        go_ret
        exact ⟨rfl, HB2.out _ _⟩

set_option maxHeartbeats 4000000 in
set_option maxRecDepth 100000 in
theorem newer9_any (x y : S9) (w : World) : Calls Tryz.prog 38 #[sV x, sV y] w (Ret (.bool (newerB x y)) w) := by
  unfold sV sC newerB
  obtain ⟨hd, bo, nm, od, up, lv, nd, sq, dr, ac⟩ := x
  obtain ⟨hd', bo', nm', od', up', lv', nd', sq', dr', ac'⟩ := y
  simp only
  generalize (⟨nm.toArray⟩ : ByteArray) = sv at *
  generalize (⟨nm'.toArray⟩ : ByteArray) = sv' at *
  by_cases h1 : bo' < bo
  · rw [decide_eq_true h1]
    go_enter Tryz.func38, Tryz.ntmps38
    go_wp2_with fail
    go_ret
    exact ⟨rfl, belowTwo _ _ _⟩
  · rw [decide_eq_false h1]
    by_cases h2 : bo = bo'
    · subst h2
      by_cases h3 : hd' < hd
      · rw [decide_eq_true h3]
        go_enter Tryz.func38, Tryz.ntmps38
        go_wp2_with fail
        go_ret
        exact ⟨by simp, belowTwo _ _ _⟩
      · rw [decide_eq_false h3]
        go_enter Tryz.func38, Tryz.ntmps38
        go_wp2_with fail
        go_ret
        exact ⟨by simp, belowTwo _ _ _⟩
    · have h3 : (bo == bo') = false := by simpa using h2
      rw [h3]
      go_enter Tryz.func38, Tryz.ntmps38
      go_wp2_with fail
      go_ret
      exact ⟨rfl, belowTwo _ _ _⟩
end Go.Proofs.YtcpggmdiojaalaaGreatDoor.Sta

/- Layer 9: the parts of a state's text: the contracts of what makes one, lays it, takes it. -/
set_option linter.unusedVariables false
set_option linter.unusedSimpArgs false
namespace Go.Proofs.YtcpggmdiojaalaaGreatDoor.Sta
open Go.RowKit Js Lex Od

/-- A function that has a body. -/
def Ent (f : Nat) : Prop := ∀ (args : Array Value) (w : World), (callFunc f args).run Tryz.prog w = .ok (.enter f args) w
/-- A function that tells a place of a state. -/
structure AtF (ka i : Nat) : Prop where
  ent : Ent ka
  at_ : ∀ (b : Nat) (w : World), Calls Tryz.prog ka #[.pointer (some ⟨b, 0, none⟩)] w (fun e w' => e = .returned (.pointer (some ⟨b, i, none⟩)) ∧ w = w')
set_option maxRecDepth 100000 in
theorem at0_any : AtF 161 0 := by
  refine ⟨Tryz.call161, ?_⟩
  intro b w
  go_enter Tryz.func161, Tryz.ntmps161
  go_wp2_with fail
  go_ret
  exact ⟨rfl, rfl⟩
set_option maxRecDepth 100000 in
theorem at1_any : AtF 162 1 := by
  refine ⟨Tryz.call162, ?_⟩
  intro b w
  go_enter Tryz.func162, Tryz.ntmps162
  go_wp2_with fail
  go_ret
  exact ⟨rfl, rfl⟩
set_option maxRecDepth 100000 in
theorem at2_any : AtF 164 2 := by
  refine ⟨Tryz.call164, ?_⟩
  intro b w
  go_enter Tryz.func164, Tryz.ntmps164
  go_wp2_with fail
  go_ret
  exact ⟨rfl, rfl⟩
set_option maxRecDepth 100000 in
theorem at3_any : AtF 165 3 := by
  refine ⟨Tryz.call165, ?_⟩
  intro b w
  go_enter Tryz.func165, Tryz.ntmps165
  go_wp2_with fail
  go_ret
  exact ⟨rfl, rfl⟩
set_option maxRecDepth 100000 in
theorem at4_any : AtF 166 4 := by
  refine ⟨Tryz.call166, ?_⟩
  intro b w
  go_enter Tryz.func166, Tryz.ntmps166
  go_wp2_with fail
  go_ret
  exact ⟨rfl, rfl⟩
set_option maxRecDepth 100000 in
theorem at5_any : AtF 168 5 := by
  refine ⟨Tryz.call168, ?_⟩
  intro b w
  go_enter Tryz.func168, Tryz.ntmps168
  go_wp2_with fail
  go_ret
  exact ⟨rfl, rfl⟩
set_option maxRecDepth 100000 in
theorem at6_any : AtF 169 6 := by
  refine ⟨Tryz.call169, ?_⟩
  intro b w
  go_enter Tryz.func169, Tryz.ntmps169
  go_wp2_with fail
  go_ret
  exact ⟨rfl, rfl⟩
set_option maxRecDepth 100000 in
theorem at7_any : AtF 170 7 := by
  refine ⟨Tryz.call170, ?_⟩
  intro b w
  go_enter Tryz.func170, Tryz.ntmps170
  go_wp2_with fail
  go_ret
  exact ⟨rfl, rfl⟩
set_option maxRecDepth 100000 in
theorem at8_any : AtF 171 8 := by
  refine ⟨Tryz.call171, ?_⟩
  intro b w
  go_enter Tryz.func171, Tryz.ntmps171
  go_wp2_with fail
  go_ret
  exact ⟨rfl, rfl⟩
set_option maxRecDepth 100000 in
theorem at9_any : AtF 172 9 := by
  refine ⟨Tryz.call172, ?_⟩
  intro b w
  go_enter Tryz.func172, Tryz.ntmps172
  go_wp2_with fail
  go_ret
  exact ⟨rfl, rfl⟩

/-- The boxes of a part. -/
structure Bx (nm : List UInt8) (ka kl kq : Nat) (B : Nat) (w : World) : Prop where
  n : w.cell? ⟨B, 0, none⟩ = some (.string ⟨nm.toArray⟩)
  a : w.cell? ⟨B + 1, 0, none⟩ = some (.func (.func ka) #[] #[])
  l : w.cell? ⟨B + 2, 0, none⟩ = some (.func (.func kl) #[] #[])
  q : w.cell? ⟨B + 3, 0, none⟩ = some (.func (.func kq) #[] #[])
  lt : B + 3 < w.heap.size
theorem Bx.keep {nm : List UInt8} {ka kl kq B : Nat} {w w' : World} (h : Bx nm ka kl kq B w) (hk : ∀ k, B ≤ k → k < w.heap.size → w'.heap[k]? = w.heap[k]?) (hs : w.heap.size ≤ w'.heap.size) : Bx nm ka kl kq B w' := by
  have hl := h.lt
  exact ⟨(World.cell?_of_block (w := w) (a := ⟨B, 0, none⟩) (hk B (Nat.le_refl _) (by omega))).trans h.n, (World.cell?_of_block (w := w) (a := ⟨B + 1, 0, none⟩) (hk (B + 1) (by omega) (by omega))).trans h.a,
    (World.cell?_of_block (w := w) (a := ⟨B + 2, 0, none⟩) (hk (B + 2) (by omega) (by omega))).trans h.l, (World.cell?_of_block (w := w) (a := ⟨B + 3, 0, none⟩) (hk (B + 3) (by omega) (by omega))).trans h.q, by omega⟩
theorem Bx.below {nm : List UInt8} {ka kl kq B : Nat} {w w' : World} (h : Bx nm ka kl kq B w) (hb : Below w.heap.size w w') : Bx nm ka kl kq B w' := h.keep (fun k _ hk => hb.block k hk) hb.size
/-- A part. -/
def partV (nm : List UInt8) (L T B : Nat) : Value := .agg #[.string ⟨nm.toArray⟩, .func (.func L) #[] #[.pointer (some ⟨B + 2, 0, none⟩), .pointer (some ⟨B + 1, 0, none⟩)], .func (.func T) #[] #[.pointer (some ⟨B + 3, 0, none⟩), .pointer (some ⟨B, 0, none⟩), .pointer (some ⟨B + 1, 0, none⟩)]]
/-- What makes a part leaves it. -/
def PRet (nm : List UInt8) (ka kl kq L T : Nat) (w : World) (e : Ending) (w' : World) : Prop := ∃ B, e = .returned (partV nm L T B) ∧ Bx nm ka kl kq B w' ∧ w.heap.size ≤ B ∧ Below w.heap.size w w'
theorem four_boxes (w : World) (nm : ByteArray) (ka kl kq : Nat) (t0 t1 t2 t3 : TypeId) (o : Obj) : let w' := ((((w.alloc (.cells #[.string nm] t0)).alloc (.cells #[.func (.func ka) #[] #[]] t1)).alloc (.cells #[.func (.func kl) #[] #[]] t2)).alloc (.cells #[.func (.func kq) #[] #[]] t3)).alloc o
    w'.heap[w.heap.size]? = some (.cells #[.string nm] t0 (0, 0)) ∧ w'.heap[w.heap.size + 1]? = some (.cells #[.func (.func ka) #[] #[]] t1 (0, 0)) ∧ w'.heap[w.heap.size + 2]? = some (.cells #[.func (.func kl) #[] #[]] t2 (0, 0)) ∧ w'.heap[w.heap.size + 3]? = some (.cells #[.func (.func kq) #[] #[]] t3 (0, 0)) ∧ w'.heap[w.heap.size + 4]? = some o ∧ w'.heap.size = w.heap.size + 5 ∧ Below w.heap.size w w' := by
  have b1 := belowOne w (.cells #[.string nm] t0)
  have b2 := b1.alloc b1.size (.cells #[.func (.func ka) #[] #[]] t1)
  have b3 := b2.alloc b2.size (.cells #[.func (.func kl) #[] #[]] t2)
  have b4 := b3.alloc b3.size (.cells #[.func (.func kq) #[] #[]] t3)
  have b5 := b4.alloc b4.size o
  refine ⟨?_, ?_, ?_, ?_, ?_, by simp, b5⟩
  · rw [heap_alloc_old _ _ (by simp <;> omega), heap_alloc_old _ _ (by simp <;> omega), heap_alloc_old _ _ (by simp <;> omega), heap_alloc_old _ _ (by simp <;> omega)]
    exact heap_alloc_new _ _
  · rw [heap_alloc_old _ _ (by simp <;> omega), heap_alloc_old _ _ (by simp <;> omega), heap_alloc_old _ _ (by simp <;> omega)]
    have := heap_alloc_new (w.alloc (.cells #[.string nm] t0)) (.cells #[.func (.func ka) #[] #[]] t1)
    simpa using this
  · rw [heap_alloc_old _ _ (by simp <;> omega), heap_alloc_old _ _ (by simp <;> omega)]
    have := heap_alloc_new ((w.alloc (.cells #[.string nm] t0)).alloc (.cells #[.func (.func ka) #[] #[]] t1)) (.cells #[.func (.func kl) #[] #[]] t2)
    simpa using this
  · rw [heap_alloc_old _ _ (by simp <;> omega)]
    have := heap_alloc_new (((w.alloc (.cells #[.string nm] t0)).alloc (.cells #[.func (.func ka) #[] #[]] t1)).alloc (.cells #[.func (.func kl) #[] #[]] t2)) (.cells #[.func (.func kq) #[] #[]] t3)
    simpa using this
  · have := heap_alloc_new ((((w.alloc (.cells #[.string nm] t0)).alloc (.cells #[.func (.func ka) #[] #[]] t1)).alloc (.cells #[.func (.func kl) #[] #[]] t2)).alloc (.cells #[.func (.func kq) #[] #[]] t3)) o
    simpa using this
theorem one_cell {w : World} {b : Nat} {v : Value} {T : TypeId} {f : Nat × Nat} (h : w.heap[b]? = some (.cells #[v] T f)) : w.cell? ⟨b, 0, none⟩ = some v := by
  rw [cell_of_row _ _ _ _ _ _ h]; rfl
theorem three_cells' {w : World} {b : Nat} {T : TypeId} {f : Nat × Nat} {c0 c1 c2 : Value} (h : w.heap[b]? = some (.cells #[c0, c1, c2] T f)) : w.cell? ⟨b, 0, none⟩ = some c0 ∧ w.cell? ⟨b, 1, none⟩ = some c1 ∧ w.cell? ⟨b, 2, none⟩ = some c2 := by
  have k : ∀ i, w.cell? ⟨b, i, none⟩ = (#[c0, c1, c2] : Array Value)[i]? := fun i => cell_of_row _ _ _ _ _ _ h
  exact ⟨k 0, k 1, k 2⟩

theorem cell_set_other {w : World} {a b : Nat} {i j : Nat} {u : Value} (h : a ≠ b) : (w.setCell ⟨b, j, none⟩ u).cell? ⟨a, i, none⟩ = w.cell? ⟨a, i, none⟩ := World.cell?_of_block (w := w) (a := ⟨a, i, none⟩) (heap_setCell_other _ _ _ _ h)
/-- What takes a part leaves: the state's cell is what was told. -/
def TkRet (w : World) (bs : Nat) (C : Array Value) (i : Nat) (u : Value) (r : Bool) (e : Ending) (w' : World) : Prop := e = .returned (.bool r) ∧ w'.heap[bs]? = some (.cells (C.setIfInBounds i u) 53 (0, 0)) ∧ Moves w.heap.size bs w w'
theorem tk_set {w w1 : World} {bs i : Nat} {C : Array Value} {u : Value} {r : Bool} (hb : Below w.heap.size w w1) (hs : w1.heap[bs]? = some (.cells C 53 (0, 0))) : TkRet w bs C i u r (.returned (.bool r)) (w1.setCell ⟨bs, i, none⟩ u) :=
  ⟨rfl, heap_setCell_same w1 bs i C 53 _ hs, (Moves.of_below hb).setCell (p := ⟨bs, i, none⟩) (.inr rfl) u⟩

set_option maxHeartbeats 4000000 in
set_option maxRecDepth 100000 in
theorem newI_any (nm : List UInt8) (ka : Nat) (w : World) : Calls Tryz.prog 201 #[.string ⟨nm.toArray⟩, .func (.func ka) #[] #[], .func (.func 43) #[] #[], .func (.func 96) #[] #[]] w (PRet nm ka 43 96 220 221 w) := by
  go_enter Tryz.func201, Tryz.ntmps201
  go_upto_region 1 with fail
  have hF := four_boxes w ⟨nm.toArray⟩ ka 43 96 9 189 65 85 (.cells #[.string ⟨#[]⟩, .nilFunc, .nilFunc] 164)
  simp only at hF
  generalize (((((w.alloc (.cells #[.string ⟨nm.toArray⟩] 9)).alloc (.cells #[.func (.func ka) #[] #[]] 189)).alloc (.cells #[.func (.func 43) #[] #[]] 65)).alloc (.cells #[.func (.func 96) #[] #[]] 85)).alloc (.cells #[.string ⟨#[]⟩, .nilFunc, .nilFunc] 164)) = w5 at *
  obtain ⟨x0, x1, x2, x3, x4, hsz, hb⟩ := hF
  have n0 := one_cell x0
  obtain ⟨z0, z1, z2⟩ := three_cells' x4
  have g0 := free_of x4 0
  have g1 := free_of x4 1
  have g2 := free_of x4 2
  have HX : Hid (Bx nm ka 43 96 w.heap.size w5) := ⟨one_cell x0, one_cell x1, one_cell x2, one_cell x3, by omega⟩
  have HB := Lib.hid hb
  have HSZ := Lib.hid hsz
  clear x0 x1 x2 x3 x4 hb hsz
  rw [show w.heap.size + 1 + 1 + 1 + 1 = w.heap.size + 4 from rfl, show w.heap.size + 1 + 1 + 1 = w.heap.size + 3 from rfl, show w.heap.size + 1 + 1 = w.heap.size + 2 from rfl]
  go_wp2_with fail
  refine bodyPost_ret (v := partV nm 220 221 w.heap.size) (by simp [results, Tryz.results201, go_sem, partV, z0, z1, z2]) rfl ?_
  refine ⟨w.heap.size, rfl, ?_, Nat.le_refl _, ((HB.out.setCell (p := ⟨w.heap.size + 4, 0, none⟩) (by simp) _).setCell (p := ⟨w.heap.size + 4, 1, none⟩) (by simp) _).setCell (p := ⟨w.heap.size + 4, 2, none⟩) (by simp) _⟩
  have hX := HX.out
  refine ⟨?_, ?_, ?_, ?_, by simp only [size_set]; have := hX.lt; omega⟩
  · rw [cell_set_other, cell_set_other, cell_set_other] <;> first | exact hX.n | (simp)
  · rw [cell_set_other, cell_set_other, cell_set_other] <;> first | exact hX.a | (simp)
  · rw [cell_set_other, cell_set_other, cell_set_other] <;> first | exact hX.l | (simp)
  · rw [cell_set_other, cell_set_other, cell_set_other] <;> first | exact hX.q | (simp)
set_option maxHeartbeats 4000000 in
set_option maxRecDepth 100000 in
theorem layI_any {ka i : Nat} (hA : AtF ka i) {nm : List UInt8} {C : Array Value} (n : Int) (hn : numB n = true) (hi : C[i]? = some (.int .i64 n)) {B : Nat} (w : World) (hB : Bx nm ka 43 96 B w) : Calls Tryz.prog 220 #[.agg C, .pointer (some ⟨B + 2, 0, none⟩), .pointer (some ⟨B + 1, 0, none⟩)] w (Ret (bareV 4 (Dec.mk n 0).1 (Dec.mk n 0).2.1 []) w) := by
  have HCALL := Lib.hid (fun (wz : World) => (int_num n hn wz))
  skip
  go_enter Tryz.func220, Tryz.ntmps220
  go_upto_region 1 with fail
  obtain ⟨w2, hw2⟩ : ∃ w2, ((w.alloc (.cells C 53)).alloc (.cells #[.int .i64 0, .int .i64 0, .int .i64 0, .string ⟨#[]⟩, .slice none 0 0, .slice none 0 0] 45)) = w2 := ⟨_, rfl⟩
  have HBOX : Hid (w2.heap[w.heap.size]? = some (.cells C 53 (0, 0))) := by show _ = _; rw [← hw2]; exact two_old _ _ _
  have HRES : Hid (w2.heap[w.heap.size + 1]? = some (.cells #[.int .i64 0, .int .i64 0, .int .i64 0, .string ⟨#[]⟩, .slice none 0 0, .slice none 0 0] 45 (0, 0))) := by show _ = _; rw [← hw2]; exact two_new _ _ _
  have HB2 : Hid (Below w.heap.size w w2) := by show Below _ _ _; rw [← hw2]; exact belowTwo _ _ _
  have HX := Lib.hid (hB.below HB2.out)
  have hlb := Own.block_lt HBOX.out
  have hlr := Own.block_lt HRES.out
  have hs2 := HB2.out.size
  have HI := Lib.hid hi
  rw [hw2]
  clear hw2 hi hB
  refine wp_region_grow mixed8 (fun zs => { tmps := List.toArray (Value.agg C :: Value.pointer (some ⟨B + 2, 0, none⟩) :: Value.pointer (some ⟨B + 1, 0, none⟩) :: Value.pointer (some ⟨w.heap.size, 0, none⟩) :: Value.pointer (some ⟨w.heap.size + 1, 0, none⟩) :: zs.getD 0 undef :: zs.getD 1 undef :: zs.getD 2 undef :: zs.getD 3 undef :: zs.getD 4 undef :: zs.getD 5 undef :: []), defers := [] }) [(fun z _ => z = Value.func (.func 43) #[] #[]), (fun z _ => z = Value.func (.func ka) #[] #[]), (fun z _ => z = Value.pointer (some ⟨w.heap.size, i, none⟩)), (fun z _ => z = Value.pointer (some ⟨w.heap.size, i, none⟩)), (fun z _ => z = (.int .i64 n)), (fun z _ => z = (bareV 4 (Dec.mk n 0).1 (Dec.mk n 0).2.1 []))] (List.replicate 6 undef) rfl rfl rfl ?_ (by kernel_rfl) (by kernel_rfl) ?_ ?_
  · intro p hp
    simp only [List.mem_cons, List.not_mem_nil, or_false] at hp
    rcases hp with rfl | rfl | rfl | rfl | rfl | rfl
    all_goals exact stable_eq _
  · intro i' hi' zs l wz o hz hF ho hpre
    have hi2 : i' < 6 := hi'
    match zs, (show zs.length = 6 from hz) with
    | [z0, z1, z2, z3, z4, z5], _ =>
      clear hz hi'
      change wpOp _ _ _ _ _ { tmps := List.toArray (Value.agg C :: Value.pointer (some ⟨B + 2, 0, none⟩) :: Value.pointer (some ⟨B + 1, 0, none⟩) :: Value.pointer (some ⟨w.heap.size, 0, none⟩) :: Value.pointer (some ⟨w.heap.size + 1, 0, none⟩) :: z0 :: z1 :: z2 :: z3 :: z4 :: z5 :: []), defers := [] } _
      have hc : i' = 0 ∨ i' = 1 ∨ i' = 2 ∨ i' = 3 ∨ i' = 4 ∨ i' = 5 := by omega
      clear hi2
      rcases hc with rfl | rfl | rfl | rfl | rfl | rfl
      · have y0 := (HX.out.below hF.bel).l
        clear ho hpre
        refine wpOp_here rfl (fun K' hK => ?_)
        go_simp
        exact hK _ _ ⟨_, rfl, Below.refl _ _, fun p hp => by cases (show some (fun z _ => z = Value.func (.func 43) #[] #[]) = some p from hp); exact rfl⟩
      · have y0 := (HX.out.below hF.bel).a
        clear ho hpre
        refine wpOp_here rfl (fun K' hK => ?_)
        go_simp
        exact hK _ _ ⟨_, rfl, Below.refl _ _, fun p hp => by cases (show some (fun z _ => z = Value.func (.func ka) #[] #[]) = some p from hp); exact rfl⟩
      · have p1 := hF.fact 1 _ _ rfl rfl (hpre ⟨1, .data⟩ (by cases ho; simp) rfl)
        subst p1
        clear ho hpre
        have hE := hA.ent
        unfold Ent at hE
        refine wpOp_here rfl (fun K' hK => ?_)
        go_simp
        refine (hA.at_ _ _).mono ?_
        rintro e6 w6 ⟨rfl, rfl⟩
        exact hK _ _ ⟨_, rfl, Below.refl _ _, fun p hp => by cases (show some (fun z _ => z = Value.pointer (some ⟨w.heap.size, i, none⟩)) = some p from hp); exact rfl⟩
      · have p2 := hF.fact 2 _ _ rfl rfl (hpre ⟨2, .data⟩ (by cases ho; simp) rfl)
        subst p2
        clear ho hpre
        refine wpOp_here rfl (fun K' hK => ?_)
        go_simp
        exact hK _ _ ⟨_, rfl, Below.refl _ _, fun p hp => by cases (show some (fun z _ => z = Value.pointer (some ⟨w.heap.size, i, none⟩)) = some p from hp); exact rfl⟩
      · have p3 := hF.fact 3 _ _ rfl rfl (hpre ⟨3, .data⟩ (by cases ho; simp) rfl)
        have y0 : wz.cell? ⟨w.heap.size, i, none⟩ = some (.int .i64 n) := (cell_of_row _ _ _ _ _ _ ((hF.bel.block _ hlb).trans HBOX.out)).trans HI.out
        subst p3
        clear ho hpre
        refine wpOp_here rfl (fun K' hK => ?_)
        go_simp
        exact hK _ _ ⟨_, rfl, Below.refl _ _, fun p hp => by cases (show some (fun z _ => z = (.int .i64 n)) = some p from hp); exact rfl⟩
      · have p0 := hF.fact 0 _ _ rfl rfl (hpre ⟨0, .data⟩ (by cases ho; simp) rfl)
        have p4 := hF.fact 4 _ _ rfl rfl (hpre ⟨4, .data⟩ (by cases ho; simp) rfl)
        subst p0 p4
        clear ho hpre
        refine wpOp_here rfl (fun K' hK => ?_)
        go_simp
        refine (HCALL.out wz).mono ?_
        rintro e6 w6 ⟨rfl, hb6⟩
        exact hK _ _ ⟨_, rfl, hb6, fun p hp => by cases (show some (fun z _ => z = (bareV 4 (Dec.mk n 0).1 (Dec.mk n 0).2.1 [])) = some p from hp); exact rfl⟩
  · intro zs wz hz hB hev
    match zs, (show zs.length = 6 from hz) with
    | [z0, z1, z2, z3, z4, z5], _ =>
      have p5 := hev 5 _ _ rfl rfl
      clear hev hz
      change wpOp _ _ _ _ _ { tmps := List.toArray (Value.agg C :: Value.pointer (some ⟨B + 2, 0, none⟩) :: Value.pointer (some ⟨B + 1, 0, none⟩) :: Value.pointer (some ⟨w.heap.size, 0, none⟩) :: Value.pointer (some ⟨w.heap.size + 1, 0, none⟩) :: z0 :: z1 :: z2 :: z3 :: z4 :: z5 :: []), defers := [] } _
      subst p5
      have y0 := (hB.block _ hlr).trans HRES.out
      obtain ⟨⟨c0, c1, c2, c3, c4, c5⟩, g0, g1, g2, g3, g4, g5⟩ := twelve_of y0
      have Y0 := Lib.hid y0
      clear y0
      unfold bareV
      refine wpOp_here rfl (fun K' hK => ?_)
      go_simp
      refine hK _ _ ?_
      go_wp2_with fail
      refine bodyPost_ret (v := bareV 4 (Dec.mk n 0).1 (Dec.mk n 0).2.1 []) (by simp [results, Tryz.results220, go_sem, bareV, c0, c1, c2, c3, c4, c5]) rfl ?_
      exact ⟨rfl, below_put6' (HB2.out.trans (hB.mono hs2)) (by omega) _ _ _ _ _ _⟩
set_option maxHeartbeats 4000000 in
set_option maxRecDepth 100000 in
theorem takeI_any {ka i : Nat} (hA : AtF ka i) {nm : List UInt8} {C : Array Value} {u0 : Value} (hu : C[i]? = some u0) {bs B d : Nat} {S : Nat → Prop} {v : Value} {j : J} (w : World) (hs : w.heap[bs]? = some (.cells C 53 (0, 0))) (hJ : JAt S w d v j) (hB : Bx nm ka 43 96 B w) :
    Calls Tryz.prog 221 #[.pointer (some ⟨bs, 0, none⟩), v, .pointer (some ⟨B + 3, 0, none⟩), .pointer (some ⟨B, 0, none⟩), .pointer (some ⟨B + 1, 0, none⟩)] w (TkRet w bs C i (.int .i64 (tellG (0 : Int) numS j nm).1) (tellG (0 : Int) numS j nm).2) := by
  have TE := Lib.hid (fun (w' : World) (hb : Below w.heap.size w w') => FNum_any S d v j nm w' (hJ.below hb (Nat.le_refl _)))
  have HA := Lib.hid (show ∀ (b : Nat) (w : World), Calls Tryz.prog ka #[.pointer (some ⟨b, 0, none⟩)] w (fun e w' => e = .returned (.pointer (some ⟨b, i, none⟩)) ∧ w = w') from hA.at_)
  have hE := hA.ent
  unfold Ent at hE
  generalize tellG (0 : Int) numS j nm = R at *
  obtain ⟨r1, r2⟩ := R
  obtain ⟨k, m, e, t, an, nn, cn, ai, ni, ci, rfl⟩ := jAt_form hJ
  simp only at TE ⊢
  have X0 := hB.below (belowOne w (.cells #[.int .i64 k, .int .i64 m, .int .i64 e, .string t, .slice an nn cn, .slice ai ni ci] 45))
  have q0 := X0.q
  have n0 := X0.n
  have HX := Lib.hid hB
  have HS := Lib.hid hs
  have HU := Lib.hid hu
  clear X0 hB hJ hs hu hA
  go_enter Tryz.func221, Tryz.ntmps221
  go_wp2_with (first
    | (go_at_call 96; (with_reducible refine (TE.out _ (belowOne _ _)).mono ?_); rintro e1 w1 ⟨rfl, hb1⟩; have HB1 := Lib.hid (Dec.below_call hb1); have a1 := (HX.out.below HB1.out).a; have s1 := (HB1.out.block _ (Own.block_lt HS.out)).trans HS.out; have f1 := free_of s1 i; have c1 := (cell_of_row _ _ _ _ _ _ s1).trans HU.out; have HS1 := Lib.hid s1; clear s1)
    | ((with_reducible refine (HA.out _ _).mono ?_); rintro e2 w2 ⟨rfl, rfl⟩))
  go_ret
  exact tk_set HB1.out HS1.out
set_option maxHeartbeats 4000000 in
set_option maxRecDepth 100000 in
theorem newS_any (nm : List UInt8) (ka : Nat) (w : World) : Calls Tryz.prog 202 #[.string ⟨nm.toArray⟩, .func (.func ka) #[] #[], .func (.func 29) #[] #[], .func (.func 98) #[] #[]] w (PRet nm ka 29 98 222 223 w) := by
  go_enter Tryz.func202, Tryz.ntmps202
  go_upto_region 1 with fail
  have hF := four_boxes w ⟨nm.toArray⟩ ka 29 98 9 192 48 87 (.cells #[.string ⟨#[]⟩, .nilFunc, .nilFunc] 164)
  simp only at hF
  generalize (((((w.alloc (.cells #[.string ⟨nm.toArray⟩] 9)).alloc (.cells #[.func (.func ka) #[] #[]] 192)).alloc (.cells #[.func (.func 29) #[] #[]] 48)).alloc (.cells #[.func (.func 98) #[] #[]] 87)).alloc (.cells #[.string ⟨#[]⟩, .nilFunc, .nilFunc] 164)) = w5 at *
  obtain ⟨x0, x1, x2, x3, x4, hsz, hb⟩ := hF
  have n0 := one_cell x0
  obtain ⟨z0, z1, z2⟩ := three_cells' x4
  have g0 := free_of x4 0
  have g1 := free_of x4 1
  have g2 := free_of x4 2
  have HX : Hid (Bx nm ka 29 98 w.heap.size w5) := ⟨one_cell x0, one_cell x1, one_cell x2, one_cell x3, by omega⟩
  have HB := Lib.hid hb
  have HSZ := Lib.hid hsz
  clear x0 x1 x2 x3 x4 hb hsz
  rw [show w.heap.size + 1 + 1 + 1 + 1 = w.heap.size + 4 from rfl, show w.heap.size + 1 + 1 + 1 = w.heap.size + 3 from rfl, show w.heap.size + 1 + 1 = w.heap.size + 2 from rfl]
  go_wp2_with fail
  refine bodyPost_ret (v := partV nm 222 223 w.heap.size) (by simp [results, Tryz.results202, go_sem, partV, z0, z1, z2]) rfl ?_
  refine ⟨w.heap.size, rfl, ?_, Nat.le_refl _, ((HB.out.setCell (p := ⟨w.heap.size + 4, 0, none⟩) (by simp) _).setCell (p := ⟨w.heap.size + 4, 1, none⟩) (by simp) _).setCell (p := ⟨w.heap.size + 4, 2, none⟩) (by simp) _⟩
  have hX := HX.out
  refine ⟨?_, ?_, ?_, ?_, by simp only [size_set]; have := hX.lt; omega⟩
  · rw [cell_set_other, cell_set_other, cell_set_other] <;> first | exact hX.n | (simp)
  · rw [cell_set_other, cell_set_other, cell_set_other] <;> first | exact hX.a | (simp)
  · rw [cell_set_other, cell_set_other, cell_set_other] <;> first | exact hX.l | (simp)
  · rw [cell_set_other, cell_set_other, cell_set_other] <;> first | exact hX.q | (simp)
set_option maxHeartbeats 4000000 in
set_option maxRecDepth 100000 in
theorem layS_any {ka i : Nat} (hA : AtF ka i) {nm : List UInt8} {C : Array Value} (n : List UInt8) (hi : C[i]? = some (.string ⟨n.toArray⟩)) {B : Nat} (w : World) (hB : Bx nm ka 29 98 B w) : Calls Tryz.prog 222 #[.agg C, .pointer (some ⟨B + 2, 0, none⟩), .pointer (some ⟨B + 1, 0, none⟩)] w (Ret (bareV 5 0 0 n) w) := by
  have HCALL := Lib.hid (fun (wz : World) => (str5_any n wz))
  skip
  go_enter Tryz.func222, Tryz.ntmps222
  go_upto_region 1 with fail
  obtain ⟨w2, hw2⟩ : ∃ w2, ((w.alloc (.cells C 53)).alloc (.cells #[.int .i64 0, .int .i64 0, .int .i64 0, .string ⟨#[]⟩, .slice none 0 0, .slice none 0 0] 45)) = w2 := ⟨_, rfl⟩
  have HBOX : Hid (w2.heap[w.heap.size]? = some (.cells C 53 (0, 0))) := by show _ = _; rw [← hw2]; exact two_old _ _ _
  have HRES : Hid (w2.heap[w.heap.size + 1]? = some (.cells #[.int .i64 0, .int .i64 0, .int .i64 0, .string ⟨#[]⟩, .slice none 0 0, .slice none 0 0] 45 (0, 0))) := by show _ = _; rw [← hw2]; exact two_new _ _ _
  have HB2 : Hid (Below w.heap.size w w2) := by show Below _ _ _; rw [← hw2]; exact belowTwo _ _ _
  have HX := Lib.hid (hB.below HB2.out)
  have hlb := Own.block_lt HBOX.out
  have hlr := Own.block_lt HRES.out
  have hs2 := HB2.out.size
  have HI := Lib.hid hi
  rw [hw2]
  clear hw2 hi hB
  refine wp_region_grow mixed8 (fun zs => { tmps := List.toArray (Value.agg C :: Value.pointer (some ⟨B + 2, 0, none⟩) :: Value.pointer (some ⟨B + 1, 0, none⟩) :: Value.pointer (some ⟨w.heap.size, 0, none⟩) :: Value.pointer (some ⟨w.heap.size + 1, 0, none⟩) :: zs.getD 0 undef :: zs.getD 1 undef :: zs.getD 2 undef :: zs.getD 3 undef :: zs.getD 4 undef :: zs.getD 5 undef :: []), defers := [] }) [(fun z _ => z = Value.func (.func 29) #[] #[]), (fun z _ => z = Value.func (.func ka) #[] #[]), (fun z _ => z = Value.pointer (some ⟨w.heap.size, i, none⟩)), (fun z _ => z = Value.pointer (some ⟨w.heap.size, i, none⟩)), (fun z _ => z = (.string ⟨n.toArray⟩)), (fun z _ => z = (bareV 5 0 0 n))] (List.replicate 6 undef) rfl rfl rfl ?_ (by kernel_rfl) (by kernel_rfl) ?_ ?_
  · intro p hp
    simp only [List.mem_cons, List.not_mem_nil, or_false] at hp
    rcases hp with rfl | rfl | rfl | rfl | rfl | rfl
    all_goals exact stable_eq _
  · intro i' hi' zs l wz o hz hF ho hpre
    have hi2 : i' < 6 := hi'
    match zs, (show zs.length = 6 from hz) with
    | [z0, z1, z2, z3, z4, z5], _ =>
      clear hz hi'
      change wpOp _ _ _ _ _ { tmps := List.toArray (Value.agg C :: Value.pointer (some ⟨B + 2, 0, none⟩) :: Value.pointer (some ⟨B + 1, 0, none⟩) :: Value.pointer (some ⟨w.heap.size, 0, none⟩) :: Value.pointer (some ⟨w.heap.size + 1, 0, none⟩) :: z0 :: z1 :: z2 :: z3 :: z4 :: z5 :: []), defers := [] } _
      have hc : i' = 0 ∨ i' = 1 ∨ i' = 2 ∨ i' = 3 ∨ i' = 4 ∨ i' = 5 := by omega
      clear hi2
      rcases hc with rfl | rfl | rfl | rfl | rfl | rfl
      · have y0 := (HX.out.below hF.bel).l
        clear ho hpre
        refine wpOp_here rfl (fun K' hK => ?_)
        go_simp
        exact hK _ _ ⟨_, rfl, Below.refl _ _, fun p hp => by cases (show some (fun z _ => z = Value.func (.func 29) #[] #[]) = some p from hp); exact rfl⟩
      · have y0 := (HX.out.below hF.bel).a
        clear ho hpre
        refine wpOp_here rfl (fun K' hK => ?_)
        go_simp
        exact hK _ _ ⟨_, rfl, Below.refl _ _, fun p hp => by cases (show some (fun z _ => z = Value.func (.func ka) #[] #[]) = some p from hp); exact rfl⟩
      · have p1 := hF.fact 1 _ _ rfl rfl (hpre ⟨1, .data⟩ (by cases ho; simp) rfl)
        subst p1
        clear ho hpre
        have hE := hA.ent
        unfold Ent at hE
        refine wpOp_here rfl (fun K' hK => ?_)
        go_simp
        refine (hA.at_ _ _).mono ?_
        rintro e6 w6 ⟨rfl, rfl⟩
        exact hK _ _ ⟨_, rfl, Below.refl _ _, fun p hp => by cases (show some (fun z _ => z = Value.pointer (some ⟨w.heap.size, i, none⟩)) = some p from hp); exact rfl⟩
      · have p2 := hF.fact 2 _ _ rfl rfl (hpre ⟨2, .data⟩ (by cases ho; simp) rfl)
        subst p2
        clear ho hpre
        refine wpOp_here rfl (fun K' hK => ?_)
        go_simp
        exact hK _ _ ⟨_, rfl, Below.refl _ _, fun p hp => by cases (show some (fun z _ => z = Value.pointer (some ⟨w.heap.size, i, none⟩)) = some p from hp); exact rfl⟩
      · have p3 := hF.fact 3 _ _ rfl rfl (hpre ⟨3, .data⟩ (by cases ho; simp) rfl)
        have y0 : wz.cell? ⟨w.heap.size, i, none⟩ = some (.string ⟨n.toArray⟩) := (cell_of_row _ _ _ _ _ _ ((hF.bel.block _ hlb).trans HBOX.out)).trans HI.out
        subst p3
        clear ho hpre
        refine wpOp_here rfl (fun K' hK => ?_)
        go_simp
        exact hK _ _ ⟨_, rfl, Below.refl _ _, fun p hp => by cases (show some (fun z _ => z = (.string ⟨n.toArray⟩)) = some p from hp); exact rfl⟩
      · have p0 := hF.fact 0 _ _ rfl rfl (hpre ⟨0, .data⟩ (by cases ho; simp) rfl)
        have p4 := hF.fact 4 _ _ rfl rfl (hpre ⟨4, .data⟩ (by cases ho; simp) rfl)
        subst p0 p4
        clear ho hpre
        refine wpOp_here rfl (fun K' hK => ?_)
        go_simp
        refine (HCALL.out wz).mono ?_
        rintro e6 w6 ⟨rfl, hb6⟩
        exact hK _ _ ⟨_, rfl, hb6, fun p hp => by cases (show some (fun z _ => z = (bareV 5 0 0 n)) = some p from hp); exact rfl⟩
  · intro zs wz hz hB hev
    match zs, (show zs.length = 6 from hz) with
    | [z0, z1, z2, z3, z4, z5], _ =>
      have p5 := hev 5 _ _ rfl rfl
      clear hev hz
      change wpOp _ _ _ _ _ { tmps := List.toArray (Value.agg C :: Value.pointer (some ⟨B + 2, 0, none⟩) :: Value.pointer (some ⟨B + 1, 0, none⟩) :: Value.pointer (some ⟨w.heap.size, 0, none⟩) :: Value.pointer (some ⟨w.heap.size + 1, 0, none⟩) :: z0 :: z1 :: z2 :: z3 :: z4 :: z5 :: []), defers := [] } _
      subst p5
      have y0 := (hB.block _ hlr).trans HRES.out
      obtain ⟨⟨c0, c1, c2, c3, c4, c5⟩, g0, g1, g2, g3, g4, g5⟩ := twelve_of y0
      have Y0 := Lib.hid y0
      clear y0
      unfold bareV
      refine wpOp_here rfl (fun K' hK => ?_)
      go_simp
      refine hK _ _ ?_
      go_wp2_with fail
      refine bodyPost_ret (v := bareV 5 0 0 n) (by simp [results, Tryz.results222, go_sem, bareV, c0, c1, c2, c3, c4, c5]) rfl ?_
      exact ⟨rfl, below_put6' (HB2.out.trans (hB.mono hs2)) (by omega) _ _ _ _ _ _⟩
set_option maxHeartbeats 4000000 in
set_option maxRecDepth 100000 in
theorem takeS_any {ka i : Nat} (hA : AtF ka i) {nm : List UInt8} {C : Array Value} {u0 : Value} (hu : C[i]? = some u0) {bs B d : Nat} {S : Nat → Prop} {v : Value} {j : J} (w : World) (hs : w.heap[bs]? = some (.cells C 53 (0, 0))) (hJ : JAt S w d v j) (hB : Bx nm ka 29 98 B w) :
    Calls Tryz.prog 223 #[.pointer (some ⟨bs, 0, none⟩), v, .pointer (some ⟨B + 3, 0, none⟩), .pointer (some ⟨B, 0, none⟩), .pointer (some ⟨B + 1, 0, none⟩)] w (TkRet w bs C i (.string ⟨(tellG ([] : List UInt8) txtS j nm).1.toArray⟩) (tellG ([] : List UInt8) txtS j nm).2) := by
  have TE := Lib.hid (fun (w' : World) (hb : Below w.heap.size w w') => FText_any S d v j nm w' (hJ.below hb (Nat.le_refl _)))
  have HA := Lib.hid (show ∀ (b : Nat) (w : World), Calls Tryz.prog ka #[.pointer (some ⟨b, 0, none⟩)] w (fun e w' => e = .returned (.pointer (some ⟨b, i, none⟩)) ∧ w = w') from hA.at_)
  have hE := hA.ent
  unfold Ent at hE
  generalize tellG ([] : List UInt8) txtS j nm = R at *
  obtain ⟨r1, r2⟩ := R
  obtain ⟨k, m, e, t, an, nn, cn, ai, ni, ci, rfl⟩ := jAt_form hJ
  simp only at TE ⊢
  have X0 := hB.below (belowOne w (.cells #[.int .i64 k, .int .i64 m, .int .i64 e, .string t, .slice an nn cn, .slice ai ni ci] 45))
  have q0 := X0.q
  have n0 := X0.n
  have HX := Lib.hid hB
  have HS := Lib.hid hs
  have HU := Lib.hid hu
  clear X0 hB hJ hs hu hA
  go_enter Tryz.func223, Tryz.ntmps223
  go_wp2_with (first
    | (go_at_call 98; (with_reducible refine (TE.out _ (belowOne _ _)).mono ?_); rintro e1 w1 ⟨rfl, hb1⟩; have HB1 := Lib.hid (Dec.below_call hb1); have a1 := (HX.out.below HB1.out).a; have s1 := (HB1.out.block _ (Own.block_lt HS.out)).trans HS.out; have f1 := free_of s1 i; have c1 := (cell_of_row _ _ _ _ _ _ s1).trans HU.out; have HS1 := Lib.hid s1; clear s1)
    | ((with_reducible refine (HA.out _ _).mono ?_); rintro e2 w2 ⟨rfl, rfl⟩))
  go_ret
  exact tk_set HB1.out HS1.out
set_option maxHeartbeats 4000000 in
set_option maxRecDepth 100000 in
theorem newB_any (nm : List UInt8) (ka : Nat) (w : World) : Calls Tryz.prog 203 #[.string ⟨nm.toArray⟩, .func (.func ka) #[] #[], .func (.func 173) #[] #[], .func (.func 134) #[] #[]] w (PRet nm ka 173 134 224 225 w) := by
  go_enter Tryz.func203, Tryz.ntmps203
  go_upto_region 1 with fail
  have hF := four_boxes w ⟨nm.toArray⟩ ka 173 134 9 195 113 118 (.cells #[.string ⟨#[]⟩, .nilFunc, .nilFunc] 164)
  simp only at hF
  generalize (((((w.alloc (.cells #[.string ⟨nm.toArray⟩] 9)).alloc (.cells #[.func (.func ka) #[] #[]] 195)).alloc (.cells #[.func (.func 173) #[] #[]] 113)).alloc (.cells #[.func (.func 134) #[] #[]] 118)).alloc (.cells #[.string ⟨#[]⟩, .nilFunc, .nilFunc] 164)) = w5 at *
  obtain ⟨x0, x1, x2, x3, x4, hsz, hb⟩ := hF
  have n0 := one_cell x0
  obtain ⟨z0, z1, z2⟩ := three_cells' x4
  have g0 := free_of x4 0
  have g1 := free_of x4 1
  have g2 := free_of x4 2
  have HX : Hid (Bx nm ka 173 134 w.heap.size w5) := ⟨one_cell x0, one_cell x1, one_cell x2, one_cell x3, by omega⟩
  have HB := Lib.hid hb
  have HSZ := Lib.hid hsz
  clear x0 x1 x2 x3 x4 hb hsz
  rw [show w.heap.size + 1 + 1 + 1 + 1 = w.heap.size + 4 from rfl, show w.heap.size + 1 + 1 + 1 = w.heap.size + 3 from rfl, show w.heap.size + 1 + 1 = w.heap.size + 2 from rfl]
  go_wp2_with fail
  refine bodyPost_ret (v := partV nm 224 225 w.heap.size) (by simp [results, Tryz.results203, go_sem, partV, z0, z1, z2]) rfl ?_
  refine ⟨w.heap.size, rfl, ?_, Nat.le_refl _, ((HB.out.setCell (p := ⟨w.heap.size + 4, 0, none⟩) (by simp) _).setCell (p := ⟨w.heap.size + 4, 1, none⟩) (by simp) _).setCell (p := ⟨w.heap.size + 4, 2, none⟩) (by simp) _⟩
  have hX := HX.out
  refine ⟨?_, ?_, ?_, ?_, by simp only [size_set]; have := hX.lt; omega⟩
  · rw [cell_set_other, cell_set_other, cell_set_other] <;> first | exact hX.n | (simp)
  · rw [cell_set_other, cell_set_other, cell_set_other] <;> first | exact hX.a | (simp)
  · rw [cell_set_other, cell_set_other, cell_set_other] <;> first | exact hX.l | (simp)
  · rw [cell_set_other, cell_set_other, cell_set_other] <;> first | exact hX.q | (simp)
set_option maxHeartbeats 4000000 in
set_option maxRecDepth 100000 in
theorem layB_any {ka i : Nat} (hA : AtF ka i) {nm : List UInt8} {C : Array Value} (n : Bool) (hi : C[i]? = some (.bool n)) {B : Nat} (w : World) (hB : Bx nm ka 173 134 B w) : Calls Tryz.prog 224 #[.agg C, .pointer (some ⟨B + 2, 0, none⟩), .pointer (some ⟨B + 1, 0, none⟩)] w (Ret (bareV (if n = true then 3 else 2) 0 0 []) w) := by
  have HCALL := Lib.hid (fun (wz : World) => (yes_any n wz))
  generalize (if n = true then (3 : Int) else 2) = kk at *
  go_enter Tryz.func224, Tryz.ntmps224
  go_upto_region 1 with fail
  obtain ⟨w2, hw2⟩ : ∃ w2, ((w.alloc (.cells C 53)).alloc (.cells #[.int .i64 0, .int .i64 0, .int .i64 0, .string ⟨#[]⟩, .slice none 0 0, .slice none 0 0] 45)) = w2 := ⟨_, rfl⟩
  have HBOX : Hid (w2.heap[w.heap.size]? = some (.cells C 53 (0, 0))) := by show _ = _; rw [← hw2]; exact two_old _ _ _
  have HRES : Hid (w2.heap[w.heap.size + 1]? = some (.cells #[.int .i64 0, .int .i64 0, .int .i64 0, .string ⟨#[]⟩, .slice none 0 0, .slice none 0 0] 45 (0, 0))) := by show _ = _; rw [← hw2]; exact two_new _ _ _
  have HB2 : Hid (Below w.heap.size w w2) := by show Below _ _ _; rw [← hw2]; exact belowTwo _ _ _
  have HX := Lib.hid (hB.below HB2.out)
  have hlb := Own.block_lt HBOX.out
  have hlr := Own.block_lt HRES.out
  have hs2 := HB2.out.size
  have HI := Lib.hid hi
  rw [hw2]
  clear hw2 hi hB
  refine wp_region_grow mixed8 (fun zs => { tmps := List.toArray (Value.agg C :: Value.pointer (some ⟨B + 2, 0, none⟩) :: Value.pointer (some ⟨B + 1, 0, none⟩) :: Value.pointer (some ⟨w.heap.size, 0, none⟩) :: Value.pointer (some ⟨w.heap.size + 1, 0, none⟩) :: zs.getD 0 undef :: zs.getD 1 undef :: zs.getD 2 undef :: zs.getD 3 undef :: zs.getD 4 undef :: zs.getD 5 undef :: []), defers := [] }) [(fun z _ => z = Value.func (.func 173) #[] #[]), (fun z _ => z = Value.func (.func ka) #[] #[]), (fun z _ => z = Value.pointer (some ⟨w.heap.size, i, none⟩)), (fun z _ => z = Value.pointer (some ⟨w.heap.size, i, none⟩)), (fun z _ => z = (.bool n)), (fun z _ => z = (bareV kk 0 0 []))] (List.replicate 6 undef) rfl rfl rfl ?_ (by kernel_rfl) (by kernel_rfl) ?_ ?_
  · intro p hp
    simp only [List.mem_cons, List.not_mem_nil, or_false] at hp
    rcases hp with rfl | rfl | rfl | rfl | rfl | rfl
    all_goals exact stable_eq _
  · intro i' hi' zs l wz o hz hF ho hpre
    have hi2 : i' < 6 := hi'
    match zs, (show zs.length = 6 from hz) with
    | [z0, z1, z2, z3, z4, z5], _ =>
      clear hz hi'
      change wpOp _ _ _ _ _ { tmps := List.toArray (Value.agg C :: Value.pointer (some ⟨B + 2, 0, none⟩) :: Value.pointer (some ⟨B + 1, 0, none⟩) :: Value.pointer (some ⟨w.heap.size, 0, none⟩) :: Value.pointer (some ⟨w.heap.size + 1, 0, none⟩) :: z0 :: z1 :: z2 :: z3 :: z4 :: z5 :: []), defers := [] } _
      have hc : i' = 0 ∨ i' = 1 ∨ i' = 2 ∨ i' = 3 ∨ i' = 4 ∨ i' = 5 := by omega
      clear hi2
      rcases hc with rfl | rfl | rfl | rfl | rfl | rfl
      · have y0 := (HX.out.below hF.bel).l
        clear ho hpre
        refine wpOp_here rfl (fun K' hK => ?_)
        go_simp
        exact hK _ _ ⟨_, rfl, Below.refl _ _, fun p hp => by cases (show some (fun z _ => z = Value.func (.func 173) #[] #[]) = some p from hp); exact rfl⟩
      · have y0 := (HX.out.below hF.bel).a
        clear ho hpre
        refine wpOp_here rfl (fun K' hK => ?_)
        go_simp
        exact hK _ _ ⟨_, rfl, Below.refl _ _, fun p hp => by cases (show some (fun z _ => z = Value.func (.func ka) #[] #[]) = some p from hp); exact rfl⟩
      · have p1 := hF.fact 1 _ _ rfl rfl (hpre ⟨1, .data⟩ (by cases ho; simp) rfl)
        subst p1
        clear ho hpre
        have hE := hA.ent
        unfold Ent at hE
        refine wpOp_here rfl (fun K' hK => ?_)
        go_simp
        refine (hA.at_ _ _).mono ?_
        rintro e6 w6 ⟨rfl, rfl⟩
        exact hK _ _ ⟨_, rfl, Below.refl _ _, fun p hp => by cases (show some (fun z _ => z = Value.pointer (some ⟨w.heap.size, i, none⟩)) = some p from hp); exact rfl⟩
      · have p2 := hF.fact 2 _ _ rfl rfl (hpre ⟨2, .data⟩ (by cases ho; simp) rfl)
        subst p2
        clear ho hpre
        refine wpOp_here rfl (fun K' hK => ?_)
        go_simp
        exact hK _ _ ⟨_, rfl, Below.refl _ _, fun p hp => by cases (show some (fun z _ => z = Value.pointer (some ⟨w.heap.size, i, none⟩)) = some p from hp); exact rfl⟩
      · have p3 := hF.fact 3 _ _ rfl rfl (hpre ⟨3, .data⟩ (by cases ho; simp) rfl)
        have y0 : wz.cell? ⟨w.heap.size, i, none⟩ = some (.bool n) := (cell_of_row _ _ _ _ _ _ ((hF.bel.block _ hlb).trans HBOX.out)).trans HI.out
        subst p3
        clear ho hpre
        refine wpOp_here rfl (fun K' hK => ?_)
        go_simp
        exact hK _ _ ⟨_, rfl, Below.refl _ _, fun p hp => by cases (show some (fun z _ => z = (.bool n)) = some p from hp); exact rfl⟩
      · have p0 := hF.fact 0 _ _ rfl rfl (hpre ⟨0, .data⟩ (by cases ho; simp) rfl)
        have p4 := hF.fact 4 _ _ rfl rfl (hpre ⟨4, .data⟩ (by cases ho; simp) rfl)
        subst p0 p4
        clear ho hpre
        refine wpOp_here rfl (fun K' hK => ?_)
        go_simp
        refine (HCALL.out wz).mono ?_
        rintro e6 w6 ⟨rfl, hb6⟩
        exact hK _ _ ⟨_, rfl, hb6, fun p hp => by cases (show some (fun z _ => z = (bareV kk 0 0 [])) = some p from hp); exact rfl⟩
  · intro zs wz hz hB hev
    match zs, (show zs.length = 6 from hz) with
    | [z0, z1, z2, z3, z4, z5], _ =>
      have p5 := hev 5 _ _ rfl rfl
      clear hev hz
      change wpOp _ _ _ _ _ { tmps := List.toArray (Value.agg C :: Value.pointer (some ⟨B + 2, 0, none⟩) :: Value.pointer (some ⟨B + 1, 0, none⟩) :: Value.pointer (some ⟨w.heap.size, 0, none⟩) :: Value.pointer (some ⟨w.heap.size + 1, 0, none⟩) :: z0 :: z1 :: z2 :: z3 :: z4 :: z5 :: []), defers := [] } _
      subst p5
      have y0 := (hB.block _ hlr).trans HRES.out
      obtain ⟨⟨c0, c1, c2, c3, c4, c5⟩, g0, g1, g2, g3, g4, g5⟩ := twelve_of y0
      have Y0 := Lib.hid y0
      clear y0
      unfold bareV
      refine wpOp_here rfl (fun K' hK => ?_)
      go_simp
      refine hK _ _ ?_
      go_wp2_with fail
      refine bodyPost_ret (v := bareV kk 0 0 []) (by simp [results, Tryz.results224, go_sem, bareV, c0, c1, c2, c3, c4, c5]) rfl ?_
      exact ⟨rfl, below_put6' (HB2.out.trans (hB.mono hs2)) (by omega) _ _ _ _ _ _⟩
set_option maxHeartbeats 4000000 in
set_option maxRecDepth 100000 in
theorem takeB_any {ka i : Nat} (hA : AtF ka i) {nm : List UInt8} {C : Array Value} {u0 : Value} (hu : C[i]? = some u0) {bs B d : Nat} {S : Nat → Prop} {v : Value} {j : J} (w : World) (hs : w.heap[bs]? = some (.cells C 53 (0, 0))) (hJ : JAt S w d v j) (hB : Bx nm ka 173 134 B w) :
    Calls Tryz.prog 225 #[.pointer (some ⟨bs, 0, none⟩), v, .pointer (some ⟨B + 3, 0, none⟩), .pointer (some ⟨B, 0, none⟩), .pointer (some ⟨B + 1, 0, none⟩)] w (TkRet w bs C i (.bool (tellG false flagS j nm).1) (tellG false flagS j nm).2) := by
  have TE := Lib.hid (fun (w' : World) (hb : Below w.heap.size w w') => FFlag_any S d v j nm w' (hJ.below hb (Nat.le_refl _)))
  have HA := Lib.hid (show ∀ (b : Nat) (w : World), Calls Tryz.prog ka #[.pointer (some ⟨b, 0, none⟩)] w (fun e w' => e = .returned (.pointer (some ⟨b, i, none⟩)) ∧ w = w') from hA.at_)
  have hE := hA.ent
  unfold Ent at hE
  generalize tellG false flagS j nm = R at *
  obtain ⟨r1, r2⟩ := R
  obtain ⟨k, m, e, t, an, nn, cn, ai, ni, ci, rfl⟩ := jAt_form hJ
  simp only at TE ⊢
  have X0 := hB.below (belowOne w (.cells #[.int .i64 k, .int .i64 m, .int .i64 e, .string t, .slice an nn cn, .slice ai ni ci] 45))
  have q0 := X0.q
  have n0 := X0.n
  have HX := Lib.hid hB
  have HS := Lib.hid hs
  have HU := Lib.hid hu
  clear X0 hB hJ hs hu hA
  go_enter Tryz.func225, Tryz.ntmps225
  go_wp2_with (first
    | (go_at_call 134; (with_reducible refine (TE.out _ (belowOne _ _)).mono ?_); rintro e1 w1 ⟨rfl, hb1⟩; have HB1 := Lib.hid (Dec.below_call hb1); have a1 := (HX.out.below HB1.out).a; have s1 := (HB1.out.block _ (Own.block_lt HS.out)).trans HS.out; have f1 := free_of s1 i; have c1 := (cell_of_row _ _ _ _ _ _ s1).trans HU.out; have HS1 := Lib.hid s1; clear s1)
    | ((with_reducible refine (HA.out _ _).mono ?_); rintro e2 w2 ⟨rfl, rfl⟩))
  go_ret
  exact tk_set HB1.out HS1.out
end Go.Proofs.YtcpggmdiojaalaaGreatDoor.Sta

/- Layer 9: the contract of parts: the ten parts of a state's text. -/
set_option linter.unusedVariables false
set_option linter.unusedSimpArgs false
namespace Go.Proofs.YtcpggmdiojaalaaGreatDoor.Sta
open Go.RowKit Js Lex Od

def kaL : List Nat := [161, 162, 164, 165, 166, 168, 169, 170, 171, 172]
def klL : List Nat := [43, 43, 29, 43, 43, 173, 43, 43, 173, 43]
def kqL : List Nat := [96, 96, 98, 96, 96, 134, 96, 96, 134, 96]
def laL : List Nat := [220, 220, 222, 220, 220, 224, 220, 220, 224, 220]
def taL : List Nat := [221, 221, 223, 221, 221, 225, 221, 221, 225, 221]
def nm9 (k : Nat) : List UInt8 := names9.getD k []
def ka9 (k : Nat) : Nat := kaL.getD k 0
def kl9 (k : Nat) : Nat := klL.getD k 0
def kq9 (k : Nat) : Nat := kqL.getD k 0
def la9 (k : Nat) : Nat := laL.getD k 0
def ta9 (k : Nat) : Nat := taL.getD k 0
theorem at9_of : ∀ k, k < 10 → AtF (ka9 k) k := fun k hk => by
  obtain rfl | rfl | rfl | rfl | rfl | rfl | rfl | rfl | rfl | rfl : k = 0 ∨ k = 1 ∨ k = 2 ∨ k = 3 ∨ k = 4 ∨ k = 5 ∨ k = 6 ∨ k = 7 ∨ k = 8 ∨ k = 9 := by omega
  · exact at0_any
  · exact at1_any
  · exact at2_any
  · exact at3_any
  · exact at4_any
  · exact at5_any
  · exact at6_any
  · exact at7_any
  · exact at8_any
  · exact at9_any
/-- A part, and its boxes. -/
structure Pt (lo k : Nat) (v : Value) (B : Nat) (w : World) : Prop where
  val : v = partV (nm9 k) (la9 k) (ta9 k) B
  box : Bx (nm9 k) (ka9 k) (kl9 k) (kq9 k) B w
  lo : lo ≤ B
theorem Pt.below {lo k B : Nat} {v : Value} {w w' : World} (h : Pt lo k v B w) (hb : Below w.heap.size w w') : Pt lo k v B w' := ⟨h.val, h.box.below hb, h.lo⟩
theorem flat3_get : ∀ {vs : List Value} (h : ∀ v ∈ vs, (aggC v).length = 3) (j i : Nat), j < vs.length → i < 3 → (vs.flatMap aggC)[j * 3 + i]? = (aggC (vs.getD j undef))[i]?
  | [], _, j, i, hj, _ => by simp at hj
  | x :: r, h, j, i, hj, hi => by
    have e : (x :: r).flatMap aggC = aggC x ++ r.flatMap aggC := rfl
    have h3 := h x (List.mem_cons_self ..)
    rw [e]
    cases j with
    | zero => rw [List.getElem?_append_left (by rw [h3]; omega)]; simp
    | succ j =>
      rw [List.getElem?_append_right (by rw [h3]; omega), h3, show (j + 1) * 3 + i - 3 = j * 3 + i by omega, flat3_get (fun v hv => h v (List.mem_cons_of_mem _ hv)) j i (by simpa using hj) hi]
      simp
/-- Parts that lie in a block of their own. -/
theorem parts_lit {w : World} {b : Nat} {T : TypeId} {fr : Nat × Nat} {us : List Value} (h : w.heap[b]? = some (.cells (us.flatMap aggC).toArray T fr)) (h3 : ∀ u ∈ us, (aggC u).length = 3) {k : Nat} (hk : k < us.length) : LiesAt w b (k * 3) (us.getD k undef) := fun q c hq => by
  have hm : us.getD k undef ∈ us := by
    rw [List.getD_eq_getElem?_getD, List.getElem?_eq_getElem hk]
    exact List.getElem_mem _
  have hq3 : q < 3 := by
    have := (List.getElem?_eq_some_iff.1 hq).1
    rw [h3 _ hm] at this
    exact this
  rw [cell_of_row _ _ _ _ _ _ h, ← hq, ← flat3_get h3 k q hk hq3]
  simp
/-- What parts leaves. -/
def PsRet (w : World) (e : Ending) (w' : World) : Prop := ∃ b, e = .returned (.slice (some ⟨b, 0, none⟩) 10 10) ∧ w.heap.size ≤ b ∧ b < w'.heap.size ∧ (∀ k, k < 10 → ∃ v B, LiesAt w' b (k * 3) v ∧ Pt w.heap.size k v B w') ∧ Below w.heap.size w w'

set_option maxHeartbeats 4000000 in
set_option maxRecDepth 100000 in
theorem numPart_any (nm : List UInt8) (ka : Nat) (w : World) : Calls Tryz.prog 160 #[.string ⟨nm.toArray⟩, .func (.func ka) #[] #[]] w (PRet nm ka 43 96 220 221 w) := by
  have NW := Lib.hid (fun (w' : World) => newI_any nm ka w')
  unfold PRet partV at NW
  go_enter Tryz.func160, Tryz.ntmps160
  go_wp2_with (go_at_call 201; (with_reducible refine (NW.out _).mono ?_); rintro e1 w1 ⟨B1, rfl, hx1, hl1, hb1⟩; have x1 := (hb1.block _ (by simp)).trans (heap_alloc_new w _); have hl := Own.block_lt x1; obtain ⟨z0, z1, z2⟩ := three_cells' x1; have g0 := free_of x1 0; have g1 := free_of x1 1; have g2 := free_of x1 2)
  refine bodyPost_ret (v := partV nm 220 221 B1) (by simp [results, Tryz.results160, go_sem, partV, z0, z1, z2]) rfl ?_
  have hbw := Dec.below_call hb1
  have hlw : w.heap.size + 1 ≤ B1 := by simpa using hl1
  refine ⟨B1, rfl, ?_, by omega, ((hbw.setCell (p := ⟨w.heap.size, 0, none⟩) (Nat.le_refl _) _).setCell (p := ⟨w.heap.size, 1, none⟩) (Nat.le_refl _) _).setCell (p := ⟨w.heap.size, 2, none⟩) (Nat.le_refl _) _⟩
  refine hx1.keep (fun k hk hkl => ?_) (by simp [size_set])
  rw [heap_setCell_other _ _ _ _ (by show k ≠ w.heap.size; omega), heap_setCell_other _ _ _ _ (by show k ≠ w.heap.size; omega), heap_setCell_other _ _ _ _ (by show k ≠ w.heap.size; omega)]

set_option maxHeartbeats 4000000 in
set_option maxRecDepth 100000 in
theorem textPart_any (nm : List UInt8) (ka : Nat) (w : World) : Calls Tryz.prog 163 #[.string ⟨nm.toArray⟩, .func (.func ka) #[] #[]] w (PRet nm ka 29 98 222 223 w) := by
  have NW := Lib.hid (fun (w' : World) => newS_any nm ka w')
  unfold PRet partV at NW
  go_enter Tryz.func163, Tryz.ntmps163
  go_wp2_with (go_at_call 202; (with_reducible refine (NW.out _).mono ?_); rintro e1 w1 ⟨B1, rfl, hx1, hl1, hb1⟩; have x1 := (hb1.block _ (by simp)).trans (heap_alloc_new w _); have hl := Own.block_lt x1; obtain ⟨z0, z1, z2⟩ := three_cells' x1; have g0 := free_of x1 0; have g1 := free_of x1 1; have g2 := free_of x1 2)
  refine bodyPost_ret (v := partV nm 222 223 B1) (by simp [results, Tryz.results163, go_sem, partV, z0, z1, z2]) rfl ?_
  have hbw := Dec.below_call hb1
  have hlw : w.heap.size + 1 ≤ B1 := by simpa using hl1
  refine ⟨B1, rfl, ?_, by omega, ((hbw.setCell (p := ⟨w.heap.size, 0, none⟩) (Nat.le_refl _) _).setCell (p := ⟨w.heap.size, 1, none⟩) (Nat.le_refl _) _).setCell (p := ⟨w.heap.size, 2, none⟩) (Nat.le_refl _) _⟩
  refine hx1.keep (fun k hk hkl => ?_) (by simp [size_set])
  rw [heap_setCell_other _ _ _ _ (by show k ≠ w.heap.size; omega), heap_setCell_other _ _ _ _ (by show k ≠ w.heap.size; omega), heap_setCell_other _ _ _ _ (by show k ≠ w.heap.size; omega)]

set_option maxHeartbeats 4000000 in
set_option maxRecDepth 100000 in
theorem flagPart_any (nm : List UInt8) (ka : Nat) (w : World) : Calls Tryz.prog 167 #[.string ⟨nm.toArray⟩, .func (.func ka) #[] #[]] w (PRet nm ka 173 134 224 225 w) := by
  have NW := Lib.hid (fun (w' : World) => newB_any nm ka w')
  unfold PRet partV at NW
  go_enter Tryz.func167, Tryz.ntmps167
  go_wp2_with (go_at_call 203; (with_reducible refine (NW.out _).mono ?_); rintro e1 w1 ⟨B1, rfl, hx1, hl1, hb1⟩; have x1 := (hb1.block _ (by simp)).trans (heap_alloc_new w _); have hl := Own.block_lt x1; obtain ⟨z0, z1, z2⟩ := three_cells' x1; have g0 := free_of x1 0; have g1 := free_of x1 1; have g2 := free_of x1 2)
  refine bodyPost_ret (v := partV nm 224 225 B1) (by simp [results, Tryz.results167, go_sem, partV, z0, z1, z2]) rfl ?_
  have hbw := Dec.below_call hb1
  have hlw : w.heap.size + 1 ≤ B1 := by simpa using hl1
  refine ⟨B1, rfl, ?_, by omega, ((hbw.setCell (p := ⟨w.heap.size, 0, none⟩) (Nat.le_refl _) _).setCell (p := ⟨w.heap.size, 1, none⟩) (Nat.le_refl _) _).setCell (p := ⟨w.heap.size, 2, none⟩) (Nat.le_refl _) _⟩
  refine hx1.keep (fun k hk hkl => ?_) (by simp [size_set])
  rw [heap_setCell_other _ _ _ _ (by show k ≠ w.heap.size; omega), heap_setCell_other _ _ _ _ (by show k ≠ w.heap.size; omega), heap_setCell_other _ _ _ _ (by show k ≠ w.heap.size; omega)]

set_option maxHeartbeats 8000000 in
set_option maxRecDepth 100000 in
theorem parts9_any (w : World) : Calls Tryz.prog 119 #[] w (PsRet w) := by
  have N0 := Lib.hid (fun (w' : World) => numPart_any hdrL 161 w')
  unfold PRet partV hdrL at N0
  have N1 := Lib.hid (fun (w' : World) => numPart_any bootL 162 w')
  unfold PRet partV bootL at N1
  have N2 := Lib.hid (fun (w' : World) => textPart_any serL 164 w')
  unfold PRet partV serL at N2
  have N3 := Lib.hid (fun (w' : World) => numPart_any ordL 165 w')
  unfold PRet partV ordL at N3
  have N4 := Lib.hid (fun (w' : World) => numPart_any updL 166 w')
  unfold PRet partV updL at N4
  have N5 := Lib.hid (fun (w' : World) => flagPart_any liveL 168 w')
  unfold PRet partV liveL at N5
  have N6 := Lib.hid (fun (w' : World) => numPart_any lnidL 169 w')
  unfold PRet partV lnidL at N6
  have N7 := Lib.hid (fun (w' : World) => numPart_any lseqL 170 w')
  unfold PRet partV lseqL at N7
  have N8 := Lib.hid (fun (w' : World) => flagPart_any drivL 171 w')
  unfold PRet partV drivL at N8
  have N9 := Lib.hid (fun (w' : World) => numPart_any accL 172 w')
  unfold PRet partV accL at N9
  go_enter Tryz.func119, Tryz.ntmps119
  go_wp2_with (first
    | (go_at_call 160; (with_reducible refine (N0.out _).mono ?_); rintro e0 w0 ⟨B0, rfl, hx0, hl0, hb0⟩; have X0 := Lib.hid hx0; have L0 := Lib.hid hl0; have C0 := Lib.hid hb0; have HB0 := Lib.hid hb0; clear hx0 hl0 hb0)
    | (go_at_call 160; (with_reducible refine (N1.out _).mono ?_); rintro e1 w1 ⟨B1, rfl, hx1, hl1, hb1⟩; have X1 := Lib.hid hx1; have L1 := Lib.hid hl1; have C1 := Lib.hid hb1; have HB1 := Lib.hid (HB0.out.trans (hb1.mono HB0.out.size)); clear hx1 hl1 hb1)
    | (go_at_call 163; (with_reducible refine (N2.out _).mono ?_); rintro e2 w2 ⟨B2, rfl, hx2, hl2, hb2⟩; have X2 := Lib.hid hx2; have L2 := Lib.hid hl2; have C2 := Lib.hid hb2; have HB2 := Lib.hid (HB1.out.trans (hb2.mono HB1.out.size)); clear hx2 hl2 hb2)
    | (go_at_call 160; (with_reducible refine (N3.out _).mono ?_); rintro e3 w3 ⟨B3, rfl, hx3, hl3, hb3⟩; have X3 := Lib.hid hx3; have L3 := Lib.hid hl3; have C3 := Lib.hid hb3; have HB3 := Lib.hid (HB2.out.trans (hb3.mono HB2.out.size)); clear hx3 hl3 hb3)
    | (go_at_call 160; (with_reducible refine (N4.out _).mono ?_); rintro e4 w4 ⟨B4, rfl, hx4, hl4, hb4⟩; have X4 := Lib.hid hx4; have L4 := Lib.hid hl4; have C4 := Lib.hid hb4; have HB4 := Lib.hid (HB3.out.trans (hb4.mono HB3.out.size)); clear hx4 hl4 hb4)
    | (go_at_call 167; (with_reducible refine (N5.out _).mono ?_); rintro e5 w5 ⟨B5, rfl, hx5, hl5, hb5⟩; have X5 := Lib.hid hx5; have L5 := Lib.hid hl5; have C5 := Lib.hid hb5; have HB5 := Lib.hid (HB4.out.trans (hb5.mono HB4.out.size)); clear hx5 hl5 hb5)
    | (go_at_call 160; (with_reducible refine (N6.out _).mono ?_); rintro e6 w6 ⟨B6, rfl, hx6, hl6, hb6⟩; have X6 := Lib.hid hx6; have L6 := Lib.hid hl6; have C6 := Lib.hid hb6; have HB6 := Lib.hid (HB5.out.trans (hb6.mono HB5.out.size)); clear hx6 hl6 hb6)
    | (go_at_call 160; (with_reducible refine (N7.out _).mono ?_); rintro e7 w7 ⟨B7, rfl, hx7, hl7, hb7⟩; have X7 := Lib.hid hx7; have L7 := Lib.hid hl7; have C7 := Lib.hid hb7; have HB7 := Lib.hid (HB6.out.trans (hb7.mono HB6.out.size)); clear hx7 hl7 hb7)
    | (go_at_call 167; (with_reducible refine (N8.out _).mono ?_); rintro e8 w8 ⟨B8, rfl, hx8, hl8, hb8⟩; have X8 := Lib.hid hx8; have L8 := Lib.hid hl8; have C8 := Lib.hid hb8; have HB8 := Lib.hid (HB7.out.trans (hb8.mono HB7.out.size)); clear hx8 hl8 hb8)
    | (go_at_call 160; (with_reducible refine (N9.out _).mono ?_); rintro e9 w9 ⟨B9, rfl, hx9, hl9, hb9⟩; have X9 := Lib.hid hx9; have L9 := Lib.hid hl9; have C9 := Lib.hid hb9; have HB9 := Lib.hid (HB8.out.trans (hb9.mono HB8.out.size)); clear hx9 hl9 hb9))
  go_ret
  have hblk : (w9.alloc (.cells (([partV (nm9 0) (la9 0) (ta9 0) B0, partV (nm9 1) (la9 1) (ta9 1) B1, partV (nm9 2) (la9 2) (ta9 2) B2, partV (nm9 3) (la9 3) (ta9 3) B3, partV (nm9 4) (la9 4) (ta9 4) B4, partV (nm9 5) (la9 5) (ta9 5) B5, partV (nm9 6) (la9 6) (ta9 6) B6, partV (nm9 7) (la9 7) (ta9 7) B7, partV (nm9 8) (la9 8) (ta9 8) B8, partV (nm9 9) (la9 9) (ta9 9) B9] : List Value).flatMap aggC).toArray 164)).heap[w9.heap.size]? = some (.cells (([partV (nm9 0) (la9 0) (ta9 0) B0, partV (nm9 1) (la9 1) (ta9 1) B1, partV (nm9 2) (la9 2) (ta9 2) B2, partV (nm9 3) (la9 3) (ta9 3) B3, partV (nm9 4) (la9 4) (ta9 4) B4, partV (nm9 5) (la9 5) (ta9 5) B5, partV (nm9 6) (la9 6) (ta9 6) B6, partV (nm9 7) (la9 7) (ta9 7) B7, partV (nm9 8) (la9 8) (ta9 8) B8, partV (nm9 9) (la9 9) (ta9 9) B9] : List Value).flatMap aggC).toArray 164 (0, 0)) := heap_alloc_new _ _
  have h3 : ∀ u ∈ ([partV (nm9 0) (la9 0) (ta9 0) B0, partV (nm9 1) (la9 1) (ta9 1) B1, partV (nm9 2) (la9 2) (ta9 2) B2, partV (nm9 3) (la9 3) (ta9 3) B3, partV (nm9 4) (la9 4) (ta9 4) B4, partV (nm9 5) (la9 5) (ta9 5) B5, partV (nm9 6) (la9 6) (ta9 6) B6, partV (nm9 7) (la9 7) (ta9 7) B7, partV (nm9 8) (la9 8) (ta9 8) B8, partV (nm9 9) (la9 9) (ta9 9) B9] : List Value), (aggC u).length = 3 := fun u hu => by
    simp only [List.mem_cons, List.not_mem_nil, or_false] at hu
    rcases hu with rfl | rfl | rfl | rfl | rfl | rfl | rfl | rfl | rfl | rfl <;> rfl
  have HA := belowOne w9 (.cells (([partV (nm9 0) (la9 0) (ta9 0) B0, partV (nm9 1) (la9 1) (ta9 1) B1, partV (nm9 2) (la9 2) (ta9 2) B2, partV (nm9 3) (la9 3) (ta9 3) B3, partV (nm9 4) (la9 4) (ta9 4) B4, partV (nm9 5) (la9 5) (ta9 5) B5, partV (nm9 6) (la9 6) (ta9 6) B6, partV (nm9 7) (la9 7) (ta9 7) B7, partV (nm9 8) (la9 8) (ta9 8) B8, partV (nm9 9) (la9 9) (ta9 9) B9] : List Value).flatMap aggC).toArray 164)
  have hsz := HB9.out.size
  have D8 := Lib.hid C9.out
  have D7 := Lib.hid (C8.out.trans (D8.out.mono C8.out.size))
  have D6 := Lib.hid (C7.out.trans (D7.out.mono C7.out.size))
  have D5 := Lib.hid (C6.out.trans (D6.out.mono C6.out.size))
  have D4 := Lib.hid (C5.out.trans (D5.out.mono C5.out.size))
  have D3 := Lib.hid (C4.out.trans (D4.out.mono C4.out.size))
  have D2 := Lib.hid (C3.out.trans (D3.out.mono C3.out.size))
  have D1 := Lib.hid (C2.out.trans (D2.out.mono C2.out.size))
  have D0 := Lib.hid (C1.out.trans (D1.out.mono C1.out.size))
  refine ⟨w9.heap.size, rfl, hsz, by simp, fun k hk => ?_, HB9.out.alloc hsz _⟩
  refine ⟨([partV (nm9 0) (la9 0) (ta9 0) B0, partV (nm9 1) (la9 1) (ta9 1) B1, partV (nm9 2) (la9 2) (ta9 2) B2, partV (nm9 3) (la9 3) (ta9 3) B3, partV (nm9 4) (la9 4) (ta9 4) B4, partV (nm9 5) (la9 5) (ta9 5) B5, partV (nm9 6) (la9 6) (ta9 6) B6, partV (nm9 7) (la9 7) (ta9 7) B7, partV (nm9 8) (la9 8) (ta9 8) B8, partV (nm9 9) (la9 9) (ta9 9) B9] : List Value).getD k undef, ?_⟩
  obtain rfl | rfl | rfl | rfl | rfl | rfl | rfl | rfl | rfl | rfl : k = 0 ∨ k = 1 ∨ k = 2 ∨ k = 3 ∨ k = 4 ∨ k = 5 ∨ k = 6 ∨ k = 7 ∨ k = 8 ∨ k = 9 := by omega
  · exact ⟨B0, parts_lit hblk h3 (k := 0) (show 0 < 10 by omega), rfl, (show Bx (nm9 0) (ka9 0) (kl9 0) (kq9 0) B0 w9 from (X0.out.below D0.out)).below HA, L0.out⟩
  · exact ⟨B1, parts_lit hblk h3 (k := 1) (show 1 < 10 by omega), rfl, (show Bx (nm9 1) (ka9 1) (kl9 1) (kq9 1) B1 w9 from (X1.out.below D1.out)).below HA, by have := L1.out; have := HB0.out.size; omega⟩
  · exact ⟨B2, parts_lit hblk h3 (k := 2) (show 2 < 10 by omega), rfl, (show Bx (nm9 2) (ka9 2) (kl9 2) (kq9 2) B2 w9 from (X2.out.below D2.out)).below HA, by have := L2.out; have := HB1.out.size; omega⟩
  · exact ⟨B3, parts_lit hblk h3 (k := 3) (show 3 < 10 by omega), rfl, (show Bx (nm9 3) (ka9 3) (kl9 3) (kq9 3) B3 w9 from (X3.out.below D3.out)).below HA, by have := L3.out; have := HB2.out.size; omega⟩
  · exact ⟨B4, parts_lit hblk h3 (k := 4) (show 4 < 10 by omega), rfl, (show Bx (nm9 4) (ka9 4) (kl9 4) (kq9 4) B4 w9 from (X4.out.below D4.out)).below HA, by have := L4.out; have := HB3.out.size; omega⟩
  · exact ⟨B5, parts_lit hblk h3 (k := 5) (show 5 < 10 by omega), rfl, (show Bx (nm9 5) (ka9 5) (kl9 5) (kq9 5) B5 w9 from (X5.out.below D5.out)).below HA, by have := L5.out; have := HB4.out.size; omega⟩
  · exact ⟨B6, parts_lit hblk h3 (k := 6) (show 6 < 10 by omega), rfl, (show Bx (nm9 6) (ka9 6) (kl9 6) (kq9 6) B6 w9 from (X6.out.below D6.out)).below HA, by have := L6.out; have := HB5.out.size; omega⟩
  · exact ⟨B7, parts_lit hblk h3 (k := 7) (show 7 < 10 by omega), rfl, (show Bx (nm9 7) (ka9 7) (kl9 7) (kq9 7) B7 w9 from (X7.out.below D7.out)).below HA, by have := L7.out; have := HB6.out.size; omega⟩
  · exact ⟨B8, parts_lit hblk h3 (k := 8) (show 8 < 10 by omega), rfl, (show Bx (nm9 8) (ka9 8) (kl9 8) (kq9 8) B8 w9 from (X8.out.below D8.out)).below HA, by have := L8.out; have := HB7.out.size; omega⟩
  · exact ⟨B9, parts_lit hblk h3 (k := 9) (show 9 < 10 by omega), rfl, (show Bx (nm9 9) (ka9 9) (kl9 9) (kq9 9) B9 w9 from X9.out).below HA, by have := L9.out; have := HB8.out.size; omega⟩
end Go.Proofs.YtcpggmdiojaalaaGreatDoor.Sta
