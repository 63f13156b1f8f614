/- The contract of Unquote. -/
import Derived.Test.YtfkdepjioleakaaEsc2
set_option linter.unusedVariables false
set_option linter.unusedSimpArgs false
namespace Go.Proofs.Ytfkdepjioleakaa
open Go.RowKit

def unqV (p : List UInt8 × Nat × Bool) : Value := .tuple #[.string ⟨p.1.toArray⟩, .int .i64 p.2.1, .bool p.2.2]
/-- What is told so far, and what is still to be read. -/
def comb (acc : List UInt8) (p : Nat) (o : Option (List UInt8 × Nat)) : List UInt8 × Nat × Bool := match o with
  | some q => (acc ++ q.1, p + q.2, true)
  | none => ([], 0, false)
theorem comb_map (acc t : List UInt8) (p n : Nat) (o : Option (List UInt8 × Nat)) : comb acc p (o.map fun q => (t ++ q.1, n + q.2)) = comb (acc ++ t) (p + n) o := by
  cases o with
  | none => rfl
  | some q => simp [comb, Nat.add_assoc]
theorem unqS_comb {l : List UInt8} (h : Lib.hasPrefix l [34] = true) : unqS l = comb [] 1 (unqB (l.drop 1)) := by
  unfold unqS comb
  rw [if_pos h]
  cases unqB (l.drop 1) with
  | none => rfl
  | some q => simp [Nat.add_comm]
theorem three {a b : ByteArray} {m n : Int} {x y : Bool} (h1 : a = b) (h2 : m = n) (h3 : x = y) : Ending.returned (.tuple #[.string a, .int .i64 m, .bool x]) = .returned (.tuple #[.string b, .int .i64 n, .bool y]) := by rw [h1, h2, h3]
theorem dec_head {l : List UInt8} (h : (Lib.decodeL l).1 < 128) : (l.getD 0 0).toNat < 128 ∧ (Lib.decodeL l).2 = 1 := by
  rw [Lib.decodeL_N] at h ⊢
  rcases Lib.decodeN_shape l.length (l.getD 0 0).toNat (l.getD 1 0).toNat (l.getD 2 0).toNat (l.getD 3 0).toNat with ⟨c, e⟩ | ⟨c1, c2, c3, cv, e⟩ | ⟨c1, c2, c3, c4, cv, cs, e⟩ | ⟨c1, c2, c3, c4, c5, cv, cw, e⟩ | e
  all_goals rw [e] at h ⊢
  all_goals simp only at h ⊢
  · exact ⟨c, trivial⟩
  all_goals omega
theorem dec_first {l : List UInt8} (h : (l.getD 0 0).toNat < 128) : Lib.decodeL l = ((l.getD 0 0).toNat, 1) := by
  rw [Lib.decodeL_N]
  unfold Lib.decodeN
  rw [if_pos h]

set_option maxHeartbeats 1000000 in
theorem unquote_no (s : ByteArray) (w : World) (h : Lib.hasPrefix s.data.toList [34] = false) :
    Calls Try.prog 15 #[.string s] w (Ret (unqV (unqS s.data.toList)) w) := by
  have HP := Lib.hid (fun w => Try.strings_HasPrefix s ⟨#[34]⟩ w)
  rw [show (⟨#[34]⟩ : ByteArray).data.toList = [34] from rfl, h] at HP
  rw [show unqS s.data.toList = ([], 0, false) by unfold unqS; rw [if_neg (by rw [h]; simp)]]
  unfold unqV
  clear h
  go_enter Try.func15, Try.ntmps15
  go_wp2_with (go_at_call 23; refine (HP.out _).mono ?_; rintro e w' ⟨rfl, rfl⟩)
  go_ret3
  exact ⟨rfl, Below.refl _ _⟩

set_option maxHeartbeats 4000000 in
theorem unquote_yes (s : ByteArray) (w : World) (hs : s.size + 8 ≤ 140737488355328) (h : Lib.hasPrefix s.data.toList [34] = true) :
    Calls Try.prog 15 #[.string s] w (Ret (unqV (unqS s.data.toList)) w) := by
  have HP := Lib.hid (fun w => Try.strings_HasPrefix s ⟨#[34]⟩ w)
  rw [show (⟨#[34]⟩ : ByteArray).data.toList = [34] from rfl, h] at HP
  have HS := Lib.hid (unqS_comb h)
  have hs1 : 1 ≤ s.size := by
    obtain ⟨t, ht⟩ := List.isPrefixOf_iff_prefix.1 (show [34].isPrefixOf s.data.toList = true from h)
    rw [← sz, ← ht]; simp
  have H0 : Hid ((s.data.toList.getD 0 0).toNat < 128) := by
    obtain ⟨t, ht⟩ := List.isPrefixOf_iff_prefix.1 (show [34].isPrefixOf s.data.toList = true from h)
    show _ < _
    rw [← ht]; simp
  clear h
  generalize unqS s.data.toList = R at *
  go_enter Try.func15, Try.ntmps15
  go_wp2_with (go_at_call 23; refine (HP.out _).mono ?_; rintro e w' ⟨rfl, rfl⟩)
  have hI0 : IsB w'.heap.size w'.heap.size (Lib.byteCells []) (w'.alloc (.cells #[.pointer none, .slice none 0 0] 44)) := Lib.IsBuilderF.of (Lib.fresh_isBuilder 44 5 w')
  go_loopw [6] (fun nv wr => ∃ (pos nx : Nat) (acc : List UInt8), nv = .int .i64 nx ∧ IsB w'.heap.size w'.heap.size (Lib.byteCells acc) wr ∧ wr.heap[w'.heap.size + 1]? = some (.stringIter s pos) ∧ Below w'.heap.size w' wr ∧ Hid (R = comb acc (max pos nx) (unqB (s.data.toList.drop (max pos nx)))) ∧ Hid (∀ j, pos ≤ j → j < nx → (s.data.toList.getD j 0).toNat < 128) ∧ pos ≤ s.size ∧ nx ≤ s.size ∧ acc.length ≤ max pos nx) (fun nv wr => s.size - wr.iterPos (w'.heap.size + 1))
  case atStart =>
    refine ⟨0, 1, [], rfl, hI0.alloc _, ?_, ((Below.refl _ w').alloc (Nat.le_refl _) _).alloc (by simp) _, HS.out, ?_, by omega, by omega, by simp⟩
    · have := World.iter_heap (w'.alloc (.cells #[.pointer none, .slice none 0 0] 44)) s 0
      simpa using this
    · intro j h1 h2
      obtain rfl : j = 0 := by omega
      exact H0.out
  case round =>
    obtain ⟨pos, nx, acc, rfl, hI, hit, hbw, hacc, hasc, hps, hnx0, hal⟩ := hrel
    have hsz : w'.heap.size + 1 < wr.heap.size := (Array.getElem?_eq_some_iff.1 hit).1
    by_cases hp : pos < s.size
    · have hnx : ∀ ty, (Instr.next (.pointer (some ⟨w'.heap.size + 1, 0, none⟩)) true ty).run Try.prog wr = _ := fun ty => Lib.run_next_any_at wr (w'.heap.size + 1) s pos ty hit hp
      obtain ⟨hw1, hw2⟩ := decode_bounds s pos hp
      have hd1 := decode_le s pos
      have hI2 := hI.iterAt hit (pos + (Utf8.decode s pos).2)
      have hit2 := Lib.iterAt_heap wr (w'.heap.size + 1) s pos (pos + (Utf8.decode s pos).2) hit
      have hbw2 := Lib.below_iterAt hbw (k := w'.heap.size + 1) (by omega) s (pos + (Utf8.decode s pos).2)
      have hsz2 : w'.heap.size ≤ (wr.iterAt (w'.heap.size + 1) s (pos + (Utf8.decode s pos).2)).heap.size := by rw [Lib.iterAt_size]; omega
      have BR := Lib.hid (broken_at s pos hp)
      have HDE := Lib.hid (Lib.decodeL_drop s pos)
      have ES := Lib.hid (fun w => escape_any (s.extract pos s.size) w (by rw [ByteArray.size_extract]; omega))
      rw [ext_drop] at ES
      have HNE := Lib.hid (drop_ne hp)
      have HLD : Hid ((s.data.toList.drop pos).length + pos = s.size) := by show _ = _; rw [List.length_drop, sz]; omega
      have HGD : Hid (∀ k, (s.data.toList.drop pos).getD k 0 = s.data.toList.getD (pos + k) 0) := fun k => Lib.getD_dropU _ _ _
      by_cases hlt : pos < nx
      · -- a byte that is taken already
        have hone : (Utf8.decode s pos).2 = 1 := by
          have := dec_first (l := s.data.toList.drop pos) (by rw [Lib.getD_dropU]; exact hasc.out pos (Nat.le_refl _) hlt)
          rw [Lib.decodeL_drop] at this
          rw [this]
        rw [hone] at hit2 hbw2 hI2 hsz2 hnx
        clear hone hw2
        go_wp2_with fail
        go_roundw
        case rel =>
          refine ⟨pos + 1, nx, acc, rfl, hI2, hit2, hbw2, ?_, fun j h1 h2 => hasc.out j (by omega) h2, by omega, hnx0, by omega⟩
          have e : max (pos + 1) nx = max pos nx := by omega
          show _ = _
          rw [e]; exact hacc.out
        case measure =>
          simp only [World.iterPos, hit2, hit]
          omega
      · have hmx : max pos nx = pos := by omega
        rw [hmx] at hacc hal
        generalize hLd : s.data.toList.drop pos = L at *
        generalize hdc : Utf8.decode s pos = dc at *
        obtain ⟨r, wd⟩ := dc
        simp only at hw1 hw2 hd1 hI2 hit2 hbw2 hsz2
        have HL := Lib.hid hLd
        have HB : Hid (badB L = false → wd = (enc r).length ∧ L = enc r ++ L.drop wd) := fun hb => by
          have hg := good_front HNE.out hb
          rw [HDE.out] at hg
          exact ⟨hg.2.1.symm, hg.2.2.1⟩
        have HW2 := Lib.hid hw2
        clear hLd hdc hw2
        by_cases h34 : r = 34
        · -- the string's end
          subst h34
          have HE : Hid (R = (acc, pos + 1, true)) := by
            show _ = _
            rw [hacc.out, unqB_end HNE.out (by rw [HDE.out])]
            simp [comb]
          go_wp2_with (go_at_call 22; refine (Try.Builder_String_any_k w'.heap.size w'.heap.size acc _ hI2 hsz2).mono ?_; rintro e W1 ⟨rfl, _, b1, _⟩)
          go_ret3
          exact ⟨by rw [HE.out]; exact three rfl (by simp) rfl, hbw2.trans b1⟩
        have k34 : ((r : Int) == 34) = false := by simp; omega
        by_cases h92 : r = 92
        · subst h92
          have hwd1 : wd = 1 := by
            have := (dec_head (l := L) (by rw [HDE.out]; simp)).2
            rwa [HDE.out] at this
          subst hwd1
          have h0 : Hid ((L.getD 0 0).toNat < 128) := (dec_head (l := L) (by rw [HDE.out]; simp)).1
          by_cases hz : (escL L).2 = 0
          · have HE : Hid (R = ([], 0, false)) := by
              show _ = _
              rw [hacc.out, unqB_esc0 HNE.out (by rw [HDE.out]) hz]
              rfl
            generalize escL L = ep at *
            obtain ⟨er, en⟩ := ep
            simp only at hz
            subst hz
            unfold escV at ES
            go_wp2_with (go_at_call 24; (with_reducible refine (ES.out _).mono ?_); rintro e W1 ⟨rfl, rfl⟩)
            go_ret3
            exact ⟨by rw [HE.out]; rfl, hbw2⟩
          · obtain ⟨f1, f2, f3, f4⟩ := escL_facts h0.out hz
            have HE : Hid (R = comb (acc ++ enc (escL L).1) (pos + (escL L).2) (unqB (s.data.toList.drop (pos + (escL L).2)))) := by
              show _ = _
              rw [hacc.out, unqB_esc HNE.out (by rw [HDE.out]) hz, comb_map, ← HL.out, List.drop_drop]
            generalize escL L = ep at *
            obtain ⟨er, en⟩ := ep
            simp only at hz f1 f2 f3 f4 HE
            have hv : er ≤ 1114111 := by unfold vr at f1; omega
            have hsl : pos + en ≤ s.size := by have := HLD.out; omega
            have kz : ((en : Int) == 0) = false := by simp; omega
            have F3 := Lib.hid f3
            unfold escV at ES
            clear f1 f3 f2
            go_wp2_with (first
              | (go_at_call 24; (with_reducible refine (ES.out _).mono ?_); rintro e W0 ⟨rfl, rfl⟩)
              | (go_at_call 25; refine (writeRune_any w'.heap.size w'.heap.size _ er (by omega) (by omega) _ hI2 (by rw [Lib.byteCells_length]; omega) hsz2).mono ?_; rintro e W1 ⟨rfl, h1, b1, k1⟩))
            rw [cells_rune] at h1
            go_roundw
            case rel =>
              refine ⟨pos + 1, pos + en, acc ++ enc er, by go_num, .inr h1, k1.iter hit2 (by omega), hbw2.trans b1, ?_, fun j j1 j2 => ?_, by omega, hsl, by rw [List.length_append]; omega⟩
              · show _ = _
                rw [HE.out, show max (pos + 1) (pos + en) = pos + en by omega]
              · have := F3.out (j - pos) (by omega)
                rwa [HGD.out, show pos + (j - pos) = j by omega] at this
            case measure =>
              simp only [World.iterPos, k1.iter hit2 (by omega), hit]
              omega
        have k92 : ((r : Int) == 92) = false := by simp; omega
        by_cases hlow : r < 32
        · have HE : Hid (R = ([], 0, false)) := by
            show _ = _
            rw [hacc.out, unqB_low HNE.out (by rw [HDE.out]; exact h34) (by rw [HDE.out]; exact h92) (.inl (by rw [HDE.out]; exact hlow))]
            rfl
          go_wp2_with fail
          go_ret3
          exact ⟨by rw [HE.out]; rfl, hbw2⟩
        cases hb : badB L with
        | true =>
          rw [hb] at BR
          have HE : Hid (R = ([], 0, false)) := by
            show _ = _
            rw [hacc.out, unqB_low HNE.out (by rw [HDE.out]; exact h34) (by rw [HDE.out]; exact h92) (.inr hb)]
            rfl
          go_wp2_with (go_at_call 26; (with_reducible refine (BR.out _).mono ?_); rintro e W0 ⟨rfl, rfl⟩)
          go_ret3
          exact ⟨by rw [HE.out]; rfl, hbw2⟩
        | false =>
          rw [hb] at BR
          obtain ⟨hwe, hLe⟩ := HB.out hb
          have hwide := HW2.out hb
          have HE : Hid (R = comb (acc ++ enc r) (pos + wd) (unqB (s.data.toList.drop (pos + wd)))) := by
            show _ = _
            have e := unqB_plain HNE.out (by rw [HDE.out]; exact h34) (by rw [HDE.out]; exact h92) (by rw [HDE.out]; show 32 ≤ r; omega) hb
            rw [HDE.out] at e
            rw [hacc.out, e, comb_map, ← HL.out, List.drop_drop]
          have HWE := Lib.hid hwe
          clear hwe hLe hb
          go_wp2_with (first
            | (go_at_call 26; (with_reducible refine (BR.out _).mono ?_); rintro e W0 ⟨rfl, rfl⟩)
            | (go_at_call 25; refine (writeRune_any w'.heap.size w'.heap.size _ r (by omega) (by omega) _ hI2 (by rw [Lib.byteCells_length]; omega) hsz2).mono ?_; rintro e W1 ⟨rfl, h1, b1, k1⟩))
          rw [cells_rune] at h1
          go_roundw
          case rel =>
            refine ⟨pos + wd, nx, acc ++ enc r, rfl, .inr h1, k1.iter hit2 (by omega), hbw2.trans b1, ?_, fun j j1 j2 => by omega, hwide, hnx0, by rw [List.length_append, ← HWE.out]; omega⟩
            show _ = _
            rw [HE.out, show max (pos + wd) nx = pos + wd by omega]
          case measure =>
            simp only [World.iterPos, k1.iter hit2 (by omega), hit]
            omega
    · have hnx : ∀ ty, (Instr.next (.pointer (some ⟨w'.heap.size + 1, 0, none⟩)) true ty).run Try.prog wr = _ := fun ty => Lib.run_next_end_at wr (w'.heap.size + 1) s pos ty hit hp
      have HE : Hid (R = ([], 0, false)) := by
        show _ = _
        rw [hacc.out, drop_end (by omega), unqB_nil]; rfl
      go_wp2_with fail
      go_ret3
      exact ⟨by rw [HE.out]; rfl, hbw⟩

theorem unquote_any (s : ByteArray) (w : World) (hs : s.size + 8 ≤ 140737488355328) : Calls Try.prog 15 #[.string s] w (Ret (unqV (unqS s.data.toList)) w) := by
  cases h : Lib.hasPrefix s.data.toList [34] with
  | true => exact unquote_yes s w hs h
  | false => exact unquote_no s w h
end Go.Proofs.Ytfkdepjioleakaa
