import Derived.Lib.MapLaws
import Derived.ProofKit
import Derived.Deep.QuietTactic
import Derived.BigQuiet
import Derived.Laws.Cover4
import Derived.Test.YtkmiemaigalgpaaChecked
import Derived.WalkKit
import Derived.BigCall
import Derived.Lib.Hide
import Derived.Below
import Derived.RegionTactic
import Derived.Laws.DeepStrings4
/- Plain facts on UTF-8: a text is a row of characters, or it has a first byte that begins none. -/
set_option linter.unusedVariables false
set_option linter.unusedSimpArgs false
namespace Go.Proofs.Ytkmiemaigalgpaa.Quo
open Go.Lib

/-- A number that is a character's. -/
def vr (r : Nat) : Prop := r < 55296 ∨ (57344 ≤ r ∧ r ≤ 1114111)
/-- A character's bytes. -/
def enc (r : Nat) : List UInt8 := encodeRune (r : Int)
/-- The bytes of a row of characters. -/
def flat (rs : List Nat) : List UInt8 := rs.flatMap enc
/-- No right character begins here. -/
def badB (l : List UInt8) : Bool := decide (decodeL l = (65533, 1))

theorem toNat_byte {z : Int} (h0 : 0 ≤ z) (h1 : z < 256) : (z.toNat.toUInt8).toNat = z.toNat := by
  simp; omega

theorem enc_one {r : Nat} (h : r < 128) : enc r = [r.toUInt8] := by
  unfold enc encodeRune
  rw [encodeRuneZ_one (by omega) (by omega)]
  simp

theorem enc_len (r : Nat) : 1 ≤ (enc r).length ∧ (enc r).length ≤ 4 := by
  have := encodeRuneZ_length (r : Int)
  simpa [enc, encodeRune] using this

set_option maxRecDepth 100000 in
/-- What begins with a right character's bytes is decoded so. -/
theorem dec_enc {r : Nat} (h : vr r) (l : List UInt8) : decodeL (enc r ++ l) = (r, (enc r).length) := by
  rw [decodeL_N]
  unfold enc encodeRune
  by_cases h1 : r < 128
  · rw [encodeRuneZ_one (by omega) (by omega)]
    simp only [List.map_cons, List.map_nil, List.cons_append, List.nil_append, List.length_cons, List.getD_cons_zero, List.getD_cons_succ]
    rw [toNat_byte (by omega) (by omega)]
    unfold decodeN
    rw [if_pos (by omega)]
    rfl
  · by_cases h2 : r < 2048
    · rw [encodeRuneZ_two (by omega) (by omega)]
      simp only [List.map_cons, List.map_nil, List.cons_append, List.nil_append, List.length_cons, List.getD_cons_zero, List.getD_cons_succ]
      rw [toNat_byte (by omega) (by omega), toNat_byte (by omega) (by omega)]
      unfold decodeN
      rw [if_neg (by omega), if_pos (by omega), if_pos (by omega)]
      apply Prod.ext
      · show _ = r; omega
      · rfl
    · by_cases h3 : r < 65536
      · unfold vr at h
        rw [encodeRuneZ_three (by omega)]
        simp only [List.map_cons, List.map_nil, List.cons_append, List.nil_append, List.length_cons, List.getD_cons_zero, List.getD_cons_succ]
        rw [toNat_byte (by omega) (by omega), toNat_byte (by omega) (by omega), toNat_byte (by omega) (by omega)]
        unfold decodeN
        rw [if_neg (by omega), if_neg (by omega), if_pos (by omega), if_pos (by omega)]
        apply Prod.ext
        · show _ = r; omega
        · rfl
      · unfold vr at h
        rw [encodeRuneZ_four (by omega) (by omega)]
        simp only [List.map_cons, List.map_nil, List.cons_append, List.nil_append, List.length_cons, List.getD_cons_zero, List.getD_cons_succ]
        rw [toNat_byte (by omega) (by omega), toNat_byte (by omega) (by omega), toNat_byte (by omega) (by omega), toNat_byte (by omega) (by omega)]
        unfold decodeN
        rw [if_neg (by omega), if_neg (by omega), if_neg (by omega), if_pos (by omega), if_pos (by omega)]
        apply Prod.ext
        · show _ = r; omega
        · rfl

/-- Behind its first byte a character's bytes are above 127. -/
theorem enc_high {r : Nat} (j : Nat) (hj : 1 ≤ j) (hl : j < (enc r).length) : 128 ≤ ((enc r).getD j 0).toNat := by
  unfold enc encodeRune encodeRuneZ at *
  split at hl
  · simp at hl; omega
  · rename_i h1
    rw [if_neg h1]
    split at hl
    · rename_i h2
      rw [if_pos h2]
      obtain rfl : j = 1 := by simp at hl; omega
      simp only [List.map_cons, List.map_nil, List.getD_cons_zero, List.getD_cons_succ]
      rw [toNat_byte (by omega) (by omega)]; omega
    · rename_i h2
      rw [if_neg h2]
      split at hl
      · rename_i h3
        rw [if_pos h3]
        have : j = 1 ∨ j = 2 := by simp at hl; omega
        rcases this with rfl | rfl
        all_goals
          simp only [List.map_cons, List.map_nil, List.getD_cons_zero, List.getD_cons_succ]
          rw [toNat_byte (by omega) (by omega)]; omega
      · rename_i h3
        rw [if_neg h3]
        split at hl
        · rename_i h4
          rw [if_pos h4]
          have : j = 1 ∨ j = 2 ∨ j = 3 := by simp at hl; omega
          rcases this with rfl | rfl | rfl
          all_goals
            simp only [List.map_cons, List.map_nil, List.getD_cons_zero, List.getD_cons_succ]
            rw [toNat_byte (by omega) (by omega)]; omega
        · rename_i h4
          rw [if_neg h4]
          have : j = 1 ∨ j = 2 := by simp at hl; omega
          rcases this with rfl | rfl
          all_goals
            simp only [List.map_cons, List.map_nil, List.getD_cons_zero, List.getD_cons_succ]
            decide

/-- A right character at the front: its number, its bytes, what is left. -/
theorem good_front {l : List UInt8} (hne : l ≠ []) (hb : badB l = false) : vr (decodeL l).1 ∧ (enc (decodeL l).1).length = (decodeL l).2 ∧ l = enc (decodeL l).1 ++ l.drop (decodeL l).2 ∧ 1 ≤ (decodeL l).2 ∧ (decodeL l).2 ≤ l.length := by
  have hb' : ¬ ((decodeL l).1 = 65533 ∧ (decodeL l).2 = 1) := fun h => by
    unfold badB at hb
    exact absurd (Prod.ext h.1 h.2 : decodeL l = (65533, 1)) (by simpa using hb)
  have he : enc (decodeL l).1 = l.take (decodeL l).2 := encode_decode l hne hb'
  have hw : 1 ≤ (decodeL l).2 ∧ (decodeL l).2 ≤ l.length ∧ vr (decodeL l).1 := by
    have hl : 0 < l.length := List.length_pos_iff.2 hne
    have k0 := (l.getD 0 0).toNat_lt
    rw [decodeL_N] at hb' ⊢
    unfold vr
    rcases decodeN_shape l.length (l.getD 0 0).toNat (l.getD 1 0).toNat (l.getD 2 0).toNat (l.getD 3 0).toNat with ⟨c, e⟩ | ⟨c1, c2, c3, cv, e⟩ | ⟨c1, c2, c3, c4, cv, cs, e⟩ | ⟨c1, c2, c3, c4, c5, cv, cw, e⟩ | e
    all_goals rw [e] at hb' ⊢
    all_goals simp only at hb' ⊢
    · omega
    · omega
    · omega
    · omega
    · simp at hb'
  refine ⟨hw.2.2, ?_, ?_, hw.1, hw.2.1⟩
  · rw [he, List.length_take]; omega
  · conv => lhs; rw [← List.take_append_drop (decodeL l).2 l]
    rw [he]

theorem width_pos {l : List UInt8} : 1 ≤ (decodeL l).2 := by
  rw [decodeL_N]
  rcases decodeN_shape l.length (l.getD 0 0).toNat (l.getD 1 0).toNat (l.getD 2 0).toNat (l.getD 3 0).toNat with ⟨c, e⟩ | ⟨c1, c2, c3, cv, e⟩ | ⟨c1, c2, c3, c4, cv, cs, e⟩ | ⟨c1, c2, c3, c4, c5, cv, cw, e⟩ | e
  all_goals rw [e]
  all_goals simp

theorem enc_fffd : enc 65533 = [239, 191, 189] := by decide +kernel

theorem enc_good {r : Nat} (h : vr r) (l : List UInt8) : badB (enc r ++ l) = false := by
  unfold badB
  rw [dec_enc h]
  have : ¬ ((r, (enc r).length) = (65533, 1)) := fun e => by
    have e1 : r = 65533 := congrArg Prod.fst e
    have e2 : (enc r).length = 1 := congrArg Prod.snd e
    rw [e1, enc_fffd] at e2
    simp at e2
  simpa using this

/-- A byte that begins no character begins none, too, where a letter stands behind all of it. -/
theorem bad_more {l : List UInt8} (hne : l ≠ []) (hb : badB l = true) (c : UInt8) (hc : c.toNat < 128) (m : List UInt8) : badB (l ++ c :: m) = true := by
  by_cases h : badB (l ++ c :: m) = true
  · exact h
  · have hf : badB (l ++ c :: m) = false := by simpa using h
    obtain ⟨hv, hlen, heq, h1, h2⟩ := good_front (by simp) hf
    generalize hr : (decodeL (l ++ c :: m)).1 = r at *
    generalize hw : (decodeL (l ++ c :: m)).2 = w at *
    by_cases hle : w ≤ l.length
    · have he : enc r = l.take w := by
        have h3 := congrArg (List.take w) heq
        rw [List.take_append_of_le_length hle, List.take_append_of_le_length (by omega), List.take_of_length_le (l := enc r) (by omega)] at h3
        exact h3.symm
      have e : l = enc r ++ l.drop w := by rw [he, List.take_append_drop]
      rw [e] at hb
      rw [enc_good hv] at hb
      exact absurd hb (by simp)
    · have h5 := congrArg (fun x => x[l.length]?) heq
      have hll : 1 ≤ l.length := List.length_pos_iff.2 hne
      simp only [List.getElem?_append_right (Nat.le_refl _), Nat.sub_self, List.getElem?_cons_zero] at h5
      rw [List.getElem?_append_left (by omega)] at h5
      have := enc_high (r := r) l.length hll (by omega)
      rw [List.getD_eq_getElem?_getD, ← h5] at this
      simp at this
      omega

/-- Whole: all characters are right. -/
def wholeB (l : List UInt8) : Bool :=
  if h : l = [] then true else if badB l then false else wholeB (l.drop (decodeL l).2)
termination_by l.length
decreasing_by
  have := width_pos (l := l)
  have := List.length_pos_iff.2 h
  simp only [List.length_drop]
  omega

theorem wholeB_nil : wholeB [] = true := by rw [wholeB]; simp
theorem wholeB_bad {l : List UInt8} (hne : l ≠ []) (h : badB l = true) : wholeB l = false := by rw [wholeB]; simp [hne, h]
theorem wholeB_good {l : List UInt8} (hne : l ≠ []) (h : badB l = false) : wholeB l = wholeB (l.drop (decodeL l).2) := by
  conv => lhs; rw [wholeB]
  simp [hne, h]
theorem enc_ne (r : Nat) : enc r ≠ [] := fun h => by have := (enc_len r).1; rw [h] at this; simp at this
theorem wholeB_enc {r : Nat} (h : vr r) (l : List UInt8) : wholeB (enc r ++ l) = wholeB l := by
  rw [wholeB_good (by simp [enc_ne]) (enc_good h l), dec_enc h]
  simp
theorem flat_cons (r : Nat) (rs : List Nat) : flat (r :: rs) = enc r ++ flat rs := by simp [flat]
theorem flat_append (a b : List Nat) : flat (a ++ b) = flat a ++ flat b := by simp [flat]
theorem wholeB_flat {rs : List Nat} (h : ∀ r ∈ rs, vr r) (l : List UInt8) : wholeB (flat rs ++ l) = wholeB l := by
  induction rs with
  | nil => rfl
  | cons r rs ih =>
    rw [flat_cons, List.append_assoc, wholeB_enc (h r (by simp)), ih fun x hx => h x (by simp [hx])]
theorem wholeB_flat' {rs : List Nat} (h : ∀ r ∈ rs, vr r) : wholeB (flat rs) = true := by
  have := wholeB_flat h []
  rwa [List.append_nil, wholeB_nil] at this
/-- Each text is characters, and then nothing, or what begins none. -/
theorem split (n : Nat) : ∀ l : List UInt8, l.length ≤ n → ∃ rs t, (∀ r ∈ rs, vr r) ∧ l = flat rs ++ t ∧ (t = [] ∨ (t ≠ [] ∧ badB t = true)) := by
  induction n with
  | zero => intro l hl; exact ⟨[], l, by simp, rfl, .inl (List.length_eq_zero_iff.1 (by omega))⟩
  | succ n ih =>
    intro l hl
    by_cases hne : l = []
    · exact ⟨[], l, by simp, rfl, .inl hne⟩
    · cases hb : badB l with
      | true => exact ⟨[], l, by simp, rfl, .inr ⟨hne, hb⟩⟩
      | false =>
        obtain ⟨hv, hlen, heq, h1, h2⟩ := good_front hne hb
        obtain ⟨rs, t, hrs, he, ht⟩ := ih (l.drop (decodeL l).2) (by rw [List.length_drop]; omega)
        refine ⟨(decodeL l).1 :: rs, t, ?_, ?_, ht⟩
        · intro r hr
          rcases List.mem_cons.1 hr with rfl | hr
          · exact hv
          · exact hrs r hr
        · rw [flat_cons, List.append_assoc, ← he]
          exact heq
theorem whole_flat {l : List UInt8} (h : wholeB l = true) : ∃ rs, (∀ r ∈ rs, vr r) ∧ l = flat rs := by
  obtain ⟨rs, t, hrs, he, ht⟩ := split l.length l (Nat.le_refl _)
  rcases ht with rfl | ⟨hne, hb⟩
  · exact ⟨rs, hrs, by rw [he, List.append_nil]⟩
  · rw [he, wholeB_flat hrs, wholeB_bad hne hb] at h
    cases h
/-- A letter, and characters behind it, change nothing of whether a text is whole. -/
theorem wholeB_behind (l : List UInt8) (c : UInt8) (hc : c.toNat < 128) {rs : List Nat} (hrs : ∀ r ∈ rs, vr r) : wholeB (l ++ c :: flat rs) = wholeB l := by
  obtain ⟨qs, t, hqs, he, ht⟩ := split l.length l (Nat.le_refl _)
  have hce : enc c.toNat = [c] := by rw [enc_one hc]; simp
  rcases ht with rfl | ⟨hne, hb⟩
  · rw [List.append_nil] at he
    rw [he, wholeB_flat' hqs, wholeB_flat hqs, show c :: flat rs = enc c.toNat ++ flat rs by rw [hce]; rfl, wholeB_enc (by unfold vr; omega), wholeB_flat' hrs]
  · rw [he, List.append_assoc, wholeB_flat hqs, wholeB_flat hqs, wholeB_bad hne hb, wholeB_bad (by simp) (bad_more hne hb c hc _)]

/-- The test by which the program tells a byte that begins no character. -/
theorem broken_iff {l : List UInt8} (hne : l ≠ []) : (decide ((decodeL l).1 = 65533) && !(hasPrefix l [239, 191, 189])) = badB l := by
  cases hb : badB l with
  | true =>
    have he : decodeL l = (65533, 1) := by simpa [badB] using hb
    have hp : hasPrefix l [239, 191, 189] = false := by
      cases hp : hasPrefix l [239, 191, 189] with
      | false => rfl
      | true =>
        unfold hasPrefix at hp
        obtain ⟨t, ht⟩ := List.isPrefixOf_iff_prefix.1 hp
        rw [← ht, ← enc_fffd, enc_good (by unfold vr; omega)] at hb
        cases hb
    simp [he, hp]
  | false =>
    obtain ⟨hv, hlen, heq, h1, h2⟩ := good_front hne hb
    by_cases h : (decodeL l).1 = 65533
    · rw [h, enc_fffd] at heq
      have hp : hasPrefix l [239, 191, 189] = true := by
        unfold hasPrefix
        exact List.isPrefixOf_iff_prefix.2 ⟨_, heq.symm⟩
      simp [hp]
    · simp [h]
end Go.Proofs.Ytkmiemaigalgpaa.Quo

/- Contracts of pick, broken and Whole. -/
set_option linter.unusedVariables false
set_option linter.unusedSimpArgs false
namespace Go.Proofs.Ytkmiemaigalgpaa.Quo
open Go.RowKit

/-- What a call leaves below the heap's size: cells and marks read as before. -/
theorem bcell {W w1 : World} (hb : Below W.heap.size W w1) : (∀ b o, b < W.heap.size → w1.cell? ⟨b, o, none⟩ = W.cell? ⟨b, o, none⟩) ∧ (∀ b o, b < W.heap.size → w1.frozen? ⟨b, o, none⟩ = W.frozen? ⟨b, o, none⟩) :=
  ⟨fun b o h => hb.cell (p := ⟨b, o, none⟩) h, fun b o h => hb.frozen (p := ⟨b, o, none⟩) h⟩
theorem ret_int {k : IntKind} {a b : Int} (h : a = b) : Ending.returned (.int k a) = .returned (.int k b) := by rw [h]
theorem ret_bool {a b : Bool} (h : a = b) : Ending.returned (.bool a) = .returned (.bool b) := by rw [h]
theorem ret_str {a b : ByteArray} (h : a = b) : Ending.returned (.string a) = .returned (.string b) := by rw [h]
/-- It returned a value, and all that was there is as it was. -/
def Ret (v : Value) (w : World) (e : Ending) (w' : World) : Prop := e = .returned v ∧ Below w.heap.size w w'

theorem bs_append (a b : List UInt8) : (⟨a.toArray⟩ ++ ⟨b.toArray⟩ : ByteArray) = ⟨(a ++ b).toArray⟩ := by
  apply ByteArray.ext; simp
theorem bs_take (F : List UInt8) (p : Nat) : (⟨F.toArray⟩ : ByteArray).extract 0 p = ⟨(F.take p).toArray⟩ := by
  apply ByteArray.ext; simp
theorem bs_size (F : List UInt8) : (⟨F.toArray⟩ : ByteArray).size = F.length := List.size_toArray
theorem ext_drop (s : ByteArray) (p : Nat) : (s.extract p s.size).data.toList = s.data.toList.drop p := by
  rw [ByteArray.data_extract, Array.toList_extract]
  simp only [List.extract]
  exact List.take_of_length_le (by rw [List.length_drop, Array.length_toList]; exact Nat.le_refl _)
theorem bs_self (s : ByteArray) : s = ⟨s.data.toList.toArray⟩ := by apply ByteArray.ext; simp
theorem sz (s : ByteArray) : s.data.toList.length = s.size := by rw [Array.length_toList]; rfl

def pickS (c n : Int) : Int := (if c < 0 then -(c + 1) else c) % n
theorem pickS_nonneg {c n : Int} (h : 0 < n) : 0 ≤ pickS c n := Int.emod_nonneg _ (by omega)
theorem pickS_lt {c n : Int} (h : 0 < n) : pickS c n < n := Int.emod_lt_of_pos _ h

end Go.Proofs.Ytkmiemaigalgpaa.Quo

/- The contract of Text: a row of characters, of raw numbers. -/
set_option linter.unusedVariables false
set_option linter.unusedSimpArgs false
namespace Go.Proofs.Ytkmiemaigalgpaa.Quo
open Go.RowKit

theorem encode_eq {r : Nat} (h : vr r) : Utf8.encode (r : Int) = ⟨(enc r).toArray⟩ := by
  unfold vr at h
  have hv : Utf8.valid (r : Int) = true := by simp [Utf8.valid]; omega
  unfold Utf8.encode enc Lib.encodeRune
  simp only [hv, if_true, Int.toNat_natCast]
  by_cases h1 : r < 128
  · rw [if_pos h1, Lib.encodeRuneZ_one (by omega) (by omega)]
    simp
  · rw [if_neg h1]
    by_cases h2 : r < 2048
    · rw [if_pos h2, Lib.encodeRuneZ_two (by omega) (by omega)]
      simp only [List.map_cons, List.map_nil, Nat.toUInt8]
      congr 4 <;> omega
    · rw [if_neg h2]
      by_cases h3 : r < 65536
      · rw [if_pos h3, Lib.encodeRuneZ_three (by omega)]
        simp only [List.map_cons, List.map_nil, Nat.toUInt8]
        congr 4 <;> first | omega | (congr 4 <;> omega)
      · rw [if_neg h3, Lib.encodeRuneZ_four (by omega) (by omega)]
        simp only [List.map_cons, List.map_nil, Nat.toUInt8]
        congr 4 <;> first | omega | (congr 4 <;> first | omega | (congr 4 <;> omega))

/-- A slice of ints that reads as a list. -/
def IntsAt (w : World) (v : Value) (zs : List Int) : Prop :=
  (∃ ao cap, v = .slice ao 0 cap ∧ zs = []) ∨
  (∃ b off cap, v = .slice (some ⟨b, off, none⟩) zs.length cap ∧ 0 < zs.length ∧ zs.length ≤ 9223372036854775807 ∧ b < w.heap.size ∧
    (∀ j, j < zs.length → w.cell? ⟨b, off + j, none⟩ = some (.int .i64 (zs.getD j 0))) ∧ (∀ j, j < zs.length → -9223372036854775808 ≤ zs.getD j 0 ∧ zs.getD j 0 ≤ 9223372036854775807))
theorem IntsAt.below {w w' : World} {v : Value} {zs : List Int} (h : IntsAt w v zs) (hb : Below w.heap.size w w') : IntsAt w' v zs := by
  rcases h with h | ⟨b, off, cap, h1, h2, h3, h4, h5, h6⟩
  · exact .inl h
  · exact .inr ⟨b, off, cap, h1, h2, h3, Nat.lt_of_lt_of_le h4 hb.size, fun j hj => by rw [(bcell hb).1 _ _ h4]; exact h5 j hj, h6⟩

/-- The character of a raw number. -/
def fixS (v : Int) : Nat := if 55296 ≤ v ∧ v ≤ 57343 then 120 else v.toNat
def chrS (n : Int) : Nat :=
  if pickS n 5 = 0 ∨ pickS n 5 = 1 then fixS (pickS (n.tdiv 5) 128) else if pickS n 5 = 2 then fixS (pickS (n.tdiv 5) 2048)
  else if pickS n 5 = 3 then fixS (pickS (n.tdiv 5) 65536) else fixS (pickS (n.tdiv 5) 1114112)
def textR (zs : List Int) : List Nat := (zs.take 200).map chrS
theorem fixS_vr {v : Int} (h0 : 0 ≤ v) (h1 : v < 1114112) : vr (fixS v) := by
  unfold fixS vr
  split <;> omega
theorem chrS_vr (n : Int) : vr (chrS n) := by
  unfold chrS
  repeat' split
  all_goals
    refine fixS_vr (pickS_nonneg (by decide)) (Int.lt_of_lt_of_le (pickS_lt (by decide)) (by decide))
theorem textR_vr (zs : List Int) : ∀ r ∈ textR zs, vr r := by
  intro r hr
  obtain ⟨z, _, rfl⟩ := List.mem_map.1 hr
  exact chrS_vr z
theorem flat_len (rs : List Nat) : (flat rs).length ≤ 4 * rs.length := by
  induction rs with
  | nil => simp [flat]
  | cons r rs ih =>
    rw [flat_cons, List.length_append, List.length_cons]
    have := (enc_len r).2
    omega
theorem textR_len (zs : List Int) : (flat (textR zs)).length ≤ 800 := by
  have := flat_len (textR zs)
  have h2 : (textR zs).length ≤ 200 := by unfold textR; rw [List.length_map, List.length_take]; exact Nat.min_le_left _ _
  omega
theorem flat_snoc (rs : List Nat) (r : Nat) : flat (rs ++ [r]) = flat rs ++ enc r := by rw [flat_append]; simp [flat]
theorem take_snoc {zs : List Int} {k : Nat} (h : k < zs.length) : (zs.take (k + 1)).map chrS = (zs.take k).map chrS ++ [chrS (zs.getD k 0)] := by
  rw [List.take_succ_eq_append_getElem h, List.map_append]
  simp [List.getD, h]

theorem wrap32_small (r : Nat) (h : r ≤ 2147483647) : wrap32 (r : Int) = r := by
  unfold wrap32
  omega
theorem tdiv_bounds {z : Int} (h0 : -9223372036854775808 ≤ z) (h1 : z ≤ 9223372036854775807) : -9223372036854775808 ≤ z.tdiv 5 ∧ z.tdiv 5 ≤ 9223372036854775807 := by
  by_cases h : 0 ≤ z
  · rw [Int.tdiv_eq_ediv_of_nonneg h]; omega
  · have e : z.tdiv 5 = -((-z) / 5) := by
      rw [← Int.tdiv_eq_ediv_of_nonneg (show 0 ≤ -z by omega), Int.neg_tdiv, Int.neg_neg]
    rw [e]; omega

end Go.Proofs.Ytkmiemaigalgpaa.Quo
