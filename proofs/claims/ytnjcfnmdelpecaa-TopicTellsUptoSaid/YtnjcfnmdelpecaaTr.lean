import Derived.Test.YtnjcfnmdelpecaaTp
import Derived.Test.YtnjcfnmdelpecaaOwn
/- Layer 7, the document's side: a text's parts, in a slice of one's own. -/
set_option linter.unusedVariables false
set_option linter.unusedSimpArgs false
namespace Go.Proofs.Ytnjcfnmdelpecaa.Tp
open Go.RowKit Go.Proofs.Ytnjcfnmdelpecaa.Own

def strV (p : List UInt8) : Value := .string ⟨p.toArray⟩
theorem str_info : (Try.prog.info? 9).map (fun i => (i.zero, i.size, i.bytes)) = some (some (.string ⟨#[]⟩), 1, 16) := by kernel_rfl
/-- What lies between a place and the next one. -/
def segL (L : List UInt8) (f k : Nat) : List UInt8 := (L.drop f).take (k - f)
theorem bs_seg (L : List UInt8) (f k : Nat) : (⟨L.toArray⟩ : ByteArray).extract f k = ⟨(segL L f k).toArray⟩ := by
  apply ByteArray.ext
  apply Array.ext'
  rw [ByteArray.data_extract, Array.toList_extract]
  unfold segL
  rfl
theorem seg_more {L : List UInt8} {f k : Nat} (hf : f ≤ k) (hk : k < L.length) : segL L f (k + 1) = segL L f k ++ [L[k]] := by
  unfold segL
  rw [show k + 1 - f = (k - f) + 1 by omega, List.take_add_one, List.getElem?_drop, show f + (k - f) = k by omega, List.getElem?_eq_getElem hk]
  rfl
theorem seg_self (L : List UInt8) (k : Nat) : segL L k k = [] := by simp [segL]
theorem drop_seg {L : List UInt8} {f k : Nat} (hf : f ≤ k) : L.drop f = segL L f k ++ L.drop k := by
  unfold segL
  conv => lhs; rw [← List.take_append_drop (k - f) (L.drop f)]
  rw [List.drop_drop, show f + (k - f) = k by omega]
theorem seg_end {L : List UInt8} {f : Nat} (hf : f ≤ L.length) : segL L f L.length = L.drop f := by
  unfold segL
  exact List.take_of_length_le (by rw [List.length_drop]; exact Nat.le_refl _)
/-- At a slash: a part more. -/
theorem parts_slash {L : List UInt8} {f k : Nat} (hf : f ≤ k) (hk : k < L.length) (h : L[k] = 47) (hn : 47 ∉ segL L f k) : partsL (L.drop f) = segL L f k :: partsL (L.drop (k + 1)) := by
  rw [drop_seg hf, List.drop_eq_getElem_cons hk, h, partsL_head _ _ hn]
theorem parts_last {L : List UInt8} {f : Nat} (hf : f ≤ L.length) (hn : 47 ∉ segL L f L.length) : partsL (L.drop f) = [L.drop f] := by
  rw [seg_end hf] at hn
  exact partsL_one _ hn
/-- Between two rounds. -/
structure PInv (L : List UInt8) (f k : Nat) (acc : List (List UInt8)) : Prop where
  fk : f ≤ k
  no : 47 ∉ segL L f k
  eq : partsL L = acc ++ partsL (L.drop f)
  few : acc.length ≤ k
theorem PInv.first (L : List UInt8) : PInv L 0 0 [] := ⟨Nat.le_refl _, by rw [seg_self]; simp, rfl, Nat.zero_le _⟩
theorem PInv.on {L : List UInt8} {f k : Nat} {acc : List (List UInt8)} (h : PInv L f k acc) (hk : k < L.length) (hn : L[k] ≠ 47) : PInv L f (k + 1) acc :=
  ⟨by have := h.fk; omega, by rw [seg_more h.fk hk]; intro e; rcases List.mem_append.1 e with e | e
                              · exact h.no e
                              · simp at e; exact hn e.symm, h.eq, by have := h.few; omega⟩
theorem PInv.part {L : List UInt8} {f k : Nat} {acc : List (List UInt8)} (h : PInv L f k acc) (hk : k < L.length) (he : L[k] = 47) : PInv L (k + 1) (k + 1) (acc ++ [segL L f k]) :=
  ⟨Nat.le_refl _, by rw [seg_self]; simp, by rw [h.eq, parts_slash h.fk hk he h.no]; simp, by have := h.few; simp; omega⟩
theorem PInv.last {L : List UInt8} {f : Nat} {acc : List (List UInt8)} (h : PInv L f L.length acc) : partsL L = acc ++ [L.drop f] := by
  rw [h.eq, parts_last h.fk h.no]

/-- A slice that holds a text's parts. -/
def PartsAt (w : World) (v : Value) (l : List (List UInt8)) : Prop := OneAt strV w v l
/-- It returned a text's parts, in a slice of its own. -/
def RetP (w : World) (l : List (List UInt8)) (e : Ending) (w' : World) : Prop := ∃ v, e = .returned v ∧ PartsAt w' v l ∧ Below w.heap.size w w'
set_option maxHeartbeats 4000000 in
set_option maxRecDepth 100000 in
theorem rparts_any (L : List UInt8) (w : World) (hL : L.length ≤ 2000000) :
    Calls Try.prog 26 #[.string ⟨L.toArray⟩] w (RetP w (partsL L)) := by
  have hsz : (⟨L.toArray⟩ : ByteArray).size = L.length := bs_size L
  go_enter Try.func26, Try.ntmps26
  go_wp2
  go_loopw [3, 4, 5] (fun out fr i wr => ∃ (k f : Nat) (acc : List (List UInt8)), k ≤ L.length ∧ f ≤ k ∧ acc.length ≤ k ∧ i = .int .i64 k ∧ fr = .int .i64 f ∧ Hid (PInv L f k acc) ∧ Hid (wr.ownsRow w.heap.size 9 1 out acc.length (acc.map strV)) ∧ Hid (Below w.heap.size w wr)) (fun _ _ i _ => L.length - (intOf i).toNat)
  case atStart => exact ⟨0, 0, [], Nat.zero_le _, Nat.le_refl _, Nat.zero_le _, rfl, rfl, PInv.first L, World.ownsRow_nil _ _ _ _, Below.refl _ _⟩
  case round =>
    obtain ⟨k, f, acc, hk, hfk, hacc, rfl, rfl, HP, HO, HB⟩ := hrel
    have hsz2 := HB.out.size
    by_cases hlt : k < L.length
    · have hks : k < (⟨L.toArray⟩ : ByteArray).size := by rw [hsz]; exact hlt
      have hgk : (⟨L.toArray⟩ : ByteArray)[k] = L[k] := by simp [ByteArray.getElem_eq_getElem_data]
      by_cases h47 : L[k] = 47
      · have hx : ∀ u : World, (Instr.index 9 (.string ⟨L.toArray⟩) (.int .i64 k)).run Try.prog u = .ok (.int .u8 (47 : Nat)) u := run_byte ⟨L.toArray⟩ k hks 47 (by rw [hgk, h47]; rfl)
        have R2 : ∀ u : World, (Instr.slice 9 (.string ⟨L.toArray⟩) (some (.int .i64 (f : Int))) (some (.int .i64 (k : Int))) none).run Try.prog u = .ok (.string ⟨(segL L f k).toArray⟩) u := fun u => by
          rw [run_slice_string u 9 _ .i64 .i64 (f : Int) (k : Int) Try.underlying9 (by omega) (by omega) (by omega), Int.toNat_natCast, Int.toNat_natCast, bs_seg]
        have HP2 := Lib.hid (HP.out.part hlt h47)
        clear hgk h47 HP
        generalize segL L f k = p at *
        generalize (⟨L.toArray⟩ : ByteArray) = s at *
        generalize L.length = n at *
        clear hks
        go_wp2_with (at_builtin; (refine append_one rfl _ _ str_info rfl (by decide) Try.underlying31 rfl w.heap.size _ acc.length _ rfl (HO.out.alloc _) _ _ rfl [.string ⟨p.toArray⟩] rfl (heap_new wr _) (by intro u hu; simp at hu; subst hu; rfl) (by omega) (by unfold maxLen; omega) (by simp; omega) ?_); intro wv' w4 hW4 hb4 hK4; obtain ⟨g, cp, rfl, _, _⟩ := hW4.form (by omega); have HW4 := Lib.hid hW4; have HB4 := Lib.hid (((HB.out.alloc hsz2 (.cells #[.string ⟨p.toArray⟩] 9)).trans hb4)); clear hW4 hb4 hK4)
        go_roundw
        case rel => exact ⟨k + 1, k + 1, acc ++ [p], by omega, Nat.le_refl _, by simp; omega, by go_num, by go_num, HP2, by show World.ownsRow _ _ _ _ _ _ _; simpa [strV] using HW4.out, HB4⟩
        case measure => simp [intOf]; omega
      · have hx : ∀ u : World, (Instr.index 9 (.string ⟨L.toArray⟩) (.int .i64 k)).run Try.prog u = .ok (.int .u8 L[k].toNat) u := run_byte ⟨L.toArray⟩ k hks L[k].toNat (by rw [hgk])
        have hne : ((L[k].toNat : Int) == 47) = false := by
          simp only [beq_eq_false_iff_ne, ne_eq]
          intro e
          exact h47 (UInt8.toNat_inj.mp (by show L[k].toNat = 47; omega))
        have HP2 := Lib.hid (HP.out.on hlt h47)
        clear hgk h47 HP
        generalize L[k].toNat = c at *
        generalize (⟨L.toArray⟩ : ByteArray) = s at *
        generalize L.length = n at *
        clear hks
        go_wp2_with fail
        go_roundw
        case rel => exact ⟨k + 1, f, acc, by omega, by omega, by omega, by go_num, rfl, HP2, HO, HB⟩
        case measure => simp [intOf]; omega
    · obtain rfl : k = L.length := by omega
      have HE := Lib.hid HP.out.last
      have R2 : ∀ u : World, (Instr.slice 9 (.string ⟨L.toArray⟩) (some (.int .i64 (f : Int))) none none).run Try.prog u = .ok (.string ⟨(L.drop f).toArray⟩) u := fun u => by
        rw [run_slice_string_l u 9 _ Try.underlying9 .i64 (f : Int) (by omega) (by omega), Int.toNat_natCast, hsz, bs_drop]
      clear HP
      generalize L.drop f = p at *
      generalize (⟨L.toArray⟩ : ByteArray) = s at *
      generalize L.length = n at *
      go_wp2_with (at_builtin; (refine append_one rfl _ _ str_info rfl (by decide) Try.underlying31 rfl w.heap.size _ acc.length _ rfl (HO.out.alloc _) _ _ rfl [.string ⟨p.toArray⟩] rfl (heap_new wr _) (by intro u hu; simp at hu; subst hu; rfl) (by omega) (by unfold maxLen; omega) (by simp; omega) ?_); intro wv' w4 hW4 hb4 hK4; have HW4 := Lib.hid hW4; have HB4 := Lib.hid (((HB.out.alloc hsz2 (.cells #[.string ⟨p.toArray⟩] 9)).trans hb4)); clear hW4 hb4 hK4)
      go_ret
      exact ⟨_, rfl, by rw [HE.out]; exact oneAt_own (by have := HW4.out; simpa [strV] using this), HB4.out⟩
end Go.Proofs.Ytnjcfnmdelpecaa.Tp
