import Derived.Test.YtnjcfnmdelpecaaTe
import Derived.Laws.IdiomStrings
import Derived.Deep.RegionHeld
/- Layer 7: the contracts of Fit and Topic; awake. -/
set_option linter.unusedVariables false
set_option linter.unusedSimpArgs false
namespace Go.Proofs.Ytnjcfnmdelpecaa.Tp
open Go.RowKit

/-- A block that holds bytes, and may be written. -/
structure RowOf (w : World) (b : Nat) (L : List UInt8) : Prop where
  cell : ∀ j (h : j < L.length), w.cell? ⟨b, j, none⟩ = some (.int .u8 (L[j].toNat : Int))
  fro : ∀ j, j < L.length → w.frozen? ⟨b, j, none⟩ = false
theorem heap_new (w : World) (o : Obj) : (w.alloc o).heap[w.heap.size]? = some o := by
  show (w.heap.push o)[w.heap.size]? = _
  simp
theorem row_laid (u : World) (L : List UInt8) : ∃ cap W, (convert 9 41 (.string ⟨L.toArray⟩)).run Try.prog u = .ok (.slice (some ⟨u.heap.size, 0, none⟩) L.length cap) W ∧
    RowOf W u.heap.size L ∧ Below u.heap.size u W := by
  have hr := run_bytes_of_string (P := Try.prog) u 9 41 5 ⟨L.toArray⟩ Try.underlying9 Try.underlying41 Try.underlying5
  rw [bs_size] at hr
  refine ⟨_, _, hr, ⟨fun j hj => ?_, fun j hj => ?_⟩, ((Below.refl _ u).drew).alloc (Nat.le_refl _) _⟩
  · have hh := heap_new u.drew (.cells (bytesRow ⟨L.toArray⟩ (grownCap u L.length 0 5)) 5 ((bytesRow ⟨L.toArray⟩ (grownCap u L.length 0 5)).size, (bytesRow ⟨L.toArray⟩ (grownCap u L.length 0 5)).size + 1))
    rw [show u.drew.heap.size = u.heap.size from rfl] at hh
    unfold World.cell?
    rw [hh]
    show (if _ then _ else _) = _
    rw [if_neg (by simp)]
    unfold bytesRow
    rw [Array.getElem?_append_left (by simpa using hj)]
    simp [hj]
  · have hh := heap_new u.drew (.cells (bytesRow ⟨L.toArray⟩ (grownCap u L.length 0 5)) 5 ((bytesRow ⟨L.toArray⟩ (grownCap u L.length 0 5)).size, (bytesRow ⟨L.toArray⟩ (grownCap u L.length 0 5)).size + 1))
    rw [show u.drew.heap.size = u.heap.size from rfl] at hh
    have hsz : L.length ≤ (bytesRow ⟨L.toArray⟩ (grownCap u L.length 0 5)).size := by
      unfold bytesRow
      simp
    unfold World.frozen?
    rw [hh]
    simp
    omega
theorem RowOf.set {w : World} {b k : Nat} {L : List UInt8} {y : UInt8} (h : RowOf w b L) (hk : k < L.length) : RowOf (w.setCell ⟨b, k, none⟩ (.int .u8 (y.toNat : Int))) b (L.set k y) := by
  refine ⟨fun j hj => ?_, fun j hj => ?_⟩
  · rw [List.length_set] at hj
    by_cases hjk : k = j
    · subst hjk
      rw [World.cell?_setCell_same _ _ _ (h.cell k hk)]
      simp
    · rw [World.cell?_setCell_other _ _ _ _ (by intro e; cases e; exact hjk rfl), h.cell j hj]
      simp [hjk]
  · rw [List.length_set] at hj
    rw [World.frozen?_setCell]
    exact h.fro j hj
theorem RowOf.back {w : World} {b cap : Nat} {L : List UInt8} (h : RowOf w b L) : (convert 41 9 (.slice (some ⟨b, 0, none⟩) L.length cap)).run Try.prog w = .ok (.string ⟨L.toArray⟩) w := by
  refine run_convert_bytes_back (P := Try.prog) w 41 9 5 ⟨b, 0, none⟩ cap L Try.underlying41 Try.underlying5 Try.underlying9 (fun j hj => ?_)
  have := h.cell j hj
  rwa [show (⟨b, 0, none⟩ : Addr).add j = ⟨b, j, none⟩ by simp [Addr.add]; omega]


/-- A raw text's bytes, the first k of which are fitted. -/
def fitK (l : List UInt8) (k : Nat) : List UInt8 := 110 :: ((l.take k).map fitB ++ l.drop k)
theorem fitK_len (l : List UInt8) (k : Nat) : (fitK l k).length = l.length + 1 := by
  simp [fitK]; omega
theorem fitK_zero (l : List UInt8) : fitK l 0 = 110 :: l := rfl
theorem fitK_all (l : List UInt8) : fitK l l.length = 110 :: l.map fitB := by simp [fitK]
theorem fitK_at (l : List UInt8) (k : Nat) (h : k < l.length) (h2 : k + 1 < (fitK l k).length) : (fitK l k)[k + 1] = l[k] := by
  simp only [fitK, List.getElem_cons_succ]
  rw [List.getElem_append_right (by simp; omega)]
  simp only [List.length_map, List.length_take, List.getElem_drop]
  congr 1
  omega
theorem fitK_set (l : List UInt8) (k : Nat) (h : k < l.length) : (fitK l k).set (k + 1) (fitB l[k]) = fitK l (k + 1) := by
  simp only [fitK, List.set_cons_succ]
  congr 1
  have e1 : l.take (k + 1) = l.take k ++ [l[k]] := by
    rw [List.take_add_one, List.getElem?_eq_getElem h]; rfl
  have e2 : ((l.take k).map fitB).length = k := by simp [Nat.min_eq_left (Nat.le_of_lt h)]
  rw [e1, List.map_append, List.append_assoc, List.drop_eq_getElem_cons h, List.set_append_right _ _ (by omega), e2, Nat.sub_self]
  rfl
theorem run_pickB (c : UInt8) (u : World) : (Instr.index 9 (.string ⟨#[97, 98, 99, 120, 121, 122, 65, 66, 67, 88, 89, 90, 48, 49, 56, 57, 95, 46, 58, 45]⟩) (.int .i64 ((c.toNat : Int) % 20))).run Try.prog u = .ok (.int .u8 (fitB c).toNat) u := by
  unfold fitB
  rw [show ((c.toNat : Int) % 20) = ((c.toNat % 20 : Nat) : Int) by omega]
  have hm : c.toNat % 20 < 20 := Nat.mod_lt _ (by decide)
  generalize c.toNat % 20 = m at *
  rw [run_index_string _ _ _ _ _ Try.underlying9]
  have e1 : ((m : Int)).toNat = m := Int.toNat_natCast m
  have : m = 0 ∨ m = 1 ∨ m = 2 ∨ m = 3 ∨ m = 4 ∨ m = 5 ∨ m = 6 ∨ m = 7 ∨ m = 8 ∨ m = 9 ∨ m = 10 ∨ m = 11 ∨ m = 12 ∨ m = 13 ∨ m = 14 ∨ m = 15 ∨ m = 16 ∨ m = 17 ∨ m = 18 ∨ m = 19 := by omega
  rcases this with rfl | rfl | rfl | rfl | rfl | rfl | rfl | rfl | rfl | rfl | rfl | rfl | rfl | rfl | rfl | rfl | rfl | rfl | rfl | rfl <;> rfl

set_option maxHeartbeats 2000000 in
set_option maxRecDepth 100000 in
theorem Fit_any (L : List UInt8) (w : World) (hs : L.length ≤ reachN) : Calls Try.prog 21 #[.string ⟨L.toArray⟩] w (Ret (.string ⟨(fitL L).toArray⟩) w) := by
  unfold reachN at hs
  obtain ⟨l, hl⟩ : ∃ l, L.take 15 = l := ⟨_, rfl⟩
  obtain ⟨n, hn⟩ : ∃ n, l.length = n := ⟨_, rfl⟩
  have hz : (⟨L.toArray⟩ : ByteArray).size = L.length := bs_size L
  have HT : Hid ((⟨L.toArray⟩ : ByteArray).extract 0 n = ⟨l.toArray⟩) := by
    show _ = _
    rw [bs_take, ← hl]
    congr 2
    have : n = min 15 L.length := by rw [← hn, ← hl, List.length_take]
    by_cases h : L.length ≤ 15
    · rw [List.take_of_length_le (by omega), List.take_of_length_le h]
    · rw [show n = 15 by omega]
  have hn15 : n = min 15 L.length := by rw [← hn, ← hl, List.length_take]
  have HF : Hid (fitL L = fitK l n) := by
    show _ = _
    unfold fitL
    rw [hl, ← hn, fitK_all]
  have HA : Hid ((⟨#[110]⟩ : ByteArray) ++ ⟨l.toArray⟩ = ⟨(fitK l 0).toArray⟩) := bs_append [110] l
  have hs1 : (⟨#[110]⟩ : ByteArray).size = 1 := rfl
  have hsl : (⟨l.toArray⟩ : ByteArray).size = n := by rw [bs_size, hn]
  have RL := Lib.hid (fun u => row_laid u (fitK l 0))
  rw [fitK_len, hn] at RL
  rw [HF.out]
  have hN : Hid (l.length = n) := hn
  clear HF hl hn
  have HM : Hid (min ((L.length : Nat) : Int) 15 = (n : Int)) := by show _ = _; omega
  have hn2 : n ≤ 15 := by omega
  clear hn15
  generalize L.length = q at *
  generalize (⟨L.toArray⟩ : ByteArray) = s at *
  generalize (⟨l.toArray⟩ : ByteArray) = sl at *
  go_enter Try.func21, Try.ntmps21
  go_wp2_with fail
  rw [HM.out, Int.toNat_natCast, HT.out, HA.out]
  obtain ⟨cap, W, hcv, hrow, hbw⟩ := RL.out w
  rw [hcv]
  have HR : Hid (RowOf W w.heap.size (fitK l 0)) := hrow
  have HB : Hid (Below w.heap.size w W) := hbw
  clear hcv RL hrow hbw
  generalize hE : w.heap.size = b at *
  have HE := Lib.hid hE
  clear hE
  go_wp2_with fail
  go_loopw [4] (fun i wr => ∃ k : Nat, k ≤ n ∧ i = .int .i64 ((k : Int) + 1) ∧ Hid (RowOf wr b (fitK l k)) ∧ Hid (Below b w wr)) (fun i _ => n + 1 - (intOf i).toNat)
  case atStart => exact ⟨0, by omega, rfl, HR, HB⟩
  case round =>
    obtain ⟨k, hk, rfl, HRk, HBk⟩ := hrel
    by_cases hlt : k < n
    · have hkl : k < l.length := by rw [hN.out]; exact hlt
      have hk2 : k + 1 < (fitK l k).length := by rw [fitK_len]; omega
      have hc := HRk.out.cell (k + 1) hk2
      have hf := HRk.out.fro (k + 1) hk2
      rw [fitK_at l k hkl] at hc
      have HS := Lib.hid (fitK_set l k hkl)
      have HRS : Hid (RowOf (wr.setCell ⟨b, k + 1, none⟩ (.int .u8 ((fitB l[k]).toNat : Int))) b (fitK l (k + 1))) := by
        have := HRk.out.set (y := fitB l[k]) hk2
        rwa [HS.out] at this
      have PB := fun u => run_pickB l[k] u
      generalize fitB l[k] = y at *
      have hm : l[k].toNat ≤ 255 := by have := l[k].toNat_lt; omega
      generalize l[k].toNat = m at *
      clear hkl hk2 HS HRk
      go_wp2_with fail
      go_roundw
      case rel => exact ⟨k + 1, by omega, by go_num, HRS, HBk.out.setCell (p := ⟨b, k + 1, none⟩) (Nat.le_refl _) _⟩
      case measure => simp [intOf]; omega
    · obtain rfl : k = n := by omega
      have hback := HRk.out.back (cap := cap)
      rw [fitK_len, hN.out] at hback
      go_wp2_with fail
      go_ret
      exact ⟨rfl, by rw [HE.out]; exact HBk.out⟩

theorem bcell {W w1 : World} (hb : Below W.heap.size W w1) : (∀ b o, b < W.heap.size → w1.cell? ⟨b, o, none⟩ = W.cell? ⟨b, o, none⟩) ∧ (∀ b o, b < W.heap.size → w1.frozen? ⟨b, o, none⟩ = W.frozen? ⟨b, o, none⟩) :=
  ⟨fun b o h => hb.cell (p := ⟨b, o, none⟩) h, fun b o h => hb.frozen (p := ⟨b, o, none⟩) h⟩
/-- Which kind a number speaks of. -/
def kindN (c : Int) : Nat := (pickS c 5).toNat
theorem kindN_lt (c : Int) : kindN c < 5 := by
  have := pickS_nonneg (c := c) (n := 5) (by omega)
  have := pickS_lt (c := c) (n := 5) (by omega)
  unfold kindN
  omega
theorem kindN_eq (c : Int) : pickS c 5 = (kindN c : Int) := by
  have := pickS_nonneg (c := c) (n := 5) (by omega)
  unfold kindN
  omega
def topicV (m s k : List UInt8) : Value := .agg #[.string ⟨m.toArray⟩, .string ⟨s.toArray⟩, .string ⟨k.toArray⟩]

/-- The three cells of a topic that is to be told. -/
def Empty3 (W : World) (b : Nat) : Prop := HoldsA W b 0 (.string ⟨#[]⟩) ∧ HoldsA W b 1 (.string ⟨#[]⟩) ∧ HoldsA W b 2 (.string ⟨#[]⟩) ∧ b < W.heap.size
theorem Empty3.new (w : World) (t : TypeId) : Empty3 (w.alloc (.cells #[.string ⟨#[]⟩, .string ⟨#[]⟩, .string ⟨#[]⟩] t)) w.heap.size :=
  ⟨HoldsA.new _ _ _ _ _ rfl, HoldsA.new _ _ _ _ _ rfl, HoldsA.new _ _ _ _ _ rfl, by simp⟩
theorem Empty3.below {W W' : World} {b : Nat} (h : Empty3 W b) (hb : Below W.heap.size W W') : Empty3 W' b :=
  ⟨h.1.below hb h.2.2.2, h.2.1.below hb h.2.2.2, h.2.2.1.below hb h.2.2.2, Nat.lt_of_lt_of_le h.2.2.2 hb.size⟩
theorem Empty3.alloc {W : World} {b : Nat} (h : Empty3 W b) (o : Obj) : Empty3 (W.alloc o) b :=
  ⟨h.1.alloc o, h.2.1.alloc o, h.2.2.1.alloc o, by have := h.2.2.2; simp; omega⟩
set_option maxHeartbeats 4000000 in
set_option maxRecDepth 100000 in
theorem Topic_any (m s : List UInt8) (c : Int) (w : World) (hm : m.length ≤ reachN) (hs : s.length ≤ reachN) (c0 : -9223372036854775808 ≤ c) (c1 : c ≤ 9223372036854775807) :
    Calls Try.prog 11 #[.string ⟨m.toArray⟩, .string ⟨s.toArray⟩, .int .i64 c] w (Ret (topicV (fitL m) (fitL s) (kindL (kindN c))) w) := by
  have C1 := Lib.hid (fun u => Fit_any m u hm)
  have C2 := Lib.hid (fun u => Fit_any s u hs)
  have PK := Lib.hid (fun u => pick_any c 5 u c0 c1 (by omega) (by omega))
  rw [kindN_eq] at PK
  have hk := kindN_lt c
  unfold topicV
  generalize kindN c = k at *
  generalize (⟨(fitL m).toArray⟩ : ByteArray) = FM at *
  generalize (⟨(fitL s).toArray⟩ : ByteArray) = FS at *
  generalize (⟨m.toArray⟩ : ByteArray) = M at *
  generalize (⟨s.toArray⟩ : ByteArray) = S at *
  clear hm hs
  have : k = 0 ∨ k = 1 ∨ k = 2 ∨ k = 3 ∨ k = 4 := by omega
  clear hk
  rcases this with rfl | rfl | rfl | rfl | rfl
  all_goals
    go_enter Try.func11, Try.ntmps11
    go_wp2_with (first | (go_at_call 21; (with_reducible refine (C1.out _).mono ?_); rintro e w1 ⟨rfl, hb1⟩; have E1 := Lib.hid ((Empty3.new w 23).below hb1); have HB1 := Lib.hid (((Below.refl _ w).alloc (Nat.le_refl _) (.cells #[.string ⟨#[]⟩, .string ⟨#[]⟩, .string ⟨#[]⟩] 23)).trans (hb1.mono (by simp))); clear hb1) | (go_at_call 21; (with_reducible refine (C2.out _).mono ?_); rintro e w2 ⟨rfl, hb2⟩; obtain ⟨⟨g0, f0⟩, ⟨g1, f1⟩, ⟨g2, f2⟩, hlt⟩ := E1.out.below hb2; have HB2 := Lib.hid (below2 HB1.out hb2); clear hb2) | (go_at_call 13; (with_reducible refine (PK.out _).mono ?_); rintro e w3 ⟨rfl, rfl⟩))
    have hz : w.heap.size ≤ w2.heap.size := Nat.le_of_lt hlt
    refine bodyPost_ret (v := .agg #[.string FM, .string FS, .string ⟨(kindL _).toArray⟩]) ?_ rfl ⟨rfl, (((HB2.out.setCell (p := ⟨w.heap.size, 0, none⟩) (Nat.le_refl _) _).setCell (p := ⟨w.heap.size, 1, none⟩) (Nat.le_refl _) _).setCell (p := ⟨w.heap.size, 2, none⟩) (Nat.le_refl _) _).alloc (by simp; omega) _⟩
    simp [results, Try.results11, go_sem, g0, g1, g2, hlt, kindL, orderL, instL, stateL, connL, visL]
end Go.Proofs.Ytnjcfnmdelpecaa.Tp
