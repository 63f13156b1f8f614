import Derived.Test.YtmlpefpjemiccaaGreatDoorRd10
import Derived.Test.YtmlpefpjemiccaaGreatDoorParse
import Derived.BigQuiet
/- The document's Parser: is, must, has. -/
set_option linter.unusedVariables false
set_option linter.unusedSimpArgs false
namespace Go.Proofs.YtmlpefpjemiccaaGreatDoor.Js
open Go.RowKit Lex

/-- What tokens there are. -/
def TokQ (x : Tok) : Prop := (x.k = 1 ∧ ∃ c, x.t = [c]) ∨ x.k = 2 ∨ x.k = 3 ∨ (x.k = 4 ∧ (x.t = nullL ∨ x.t = falseL ∨ x.t = trueL)) ∨ x.k = 5
def WordG (l : List Tok) : Prop := ∀ x ∈ l, TokQ x
theorem first_tokQ {l : List UInt8} (h : (firstL l).2 ≠ 0) : TokQ (firstL l).1 := by
  unfold firstL at h ⊢
  split at h
  · simp at h
  · rename_i c r
    split at h
    · rename_i hs; rw [if_pos hs]; exact .inl ⟨rfl, c, rfl⟩
    · rename_i hs
      rw [if_neg hs]
      split at h
      · rename_i hq
        rw [if_pos hq]
        unfold textL at h ⊢
        split at h
        · rename_i hu; rw [if_pos hu]; exact .inr (.inl rfl)
        · simp at h
      · rename_i hq
        rw [if_neg hq]
        split at h
        · rename_i hd
          rw [if_pos hd]
          unfold numberL at h ⊢
          split at h
          · rename_i hu; rw [if_pos hu]; exact .inr (.inr (.inl rfl))
          · simp at h
        · rename_i hd
          rw [if_neg hd]
          split at h
          · rename_i hl
            rw [if_pos hl]
            unfold wordL at h ⊢
            split at h
            · rename_i hu
              rw [if_pos hu]
              refine .inr (.inr (.inr (.inl ⟨rfl, ?_⟩)))
              simp only [threeB, Bool.or_eq_true, beq_iff_eq] at hu
              rcases hu with (hu | hu) | hu
              · exact .inr (.inr hu)
              · exact .inr (.inl hu)
              · exact .inl hu
            · simp at h
          · simp at h
theorem scan_tokQ {l : List UInt8} {n : Nat} {ts : List Tok} (h : scanL l n = .inr ts) : WordG ts :=
  scan_ind (P := fun _ _ ts => WordG ts) (fun n x hx => by rw [List.mem_singleton.1 hx]; exact .inr (.inr (.inr (.inr rfl)))) (fun _ _ _ _ _ h => h)
    (fun l n ts hne h0 ih x hx => by
      rcases List.mem_cons.1 hx with rfl | hx
      · exact first_tokQ h0
      · exact ih x hx) l.length l n ts (Nat.le_refl _) h
/-- A Parser at a block, its tokens, those that are left, its error. -/
structure Pa (w : World) (pb bt cap : Nat) (ts l : List Tok) (E : Int) : Prop where
  blk : w.heap[pb]? = some (.cells #[.slice (some ⟨bt, 0, none⟩) ts.length cap, .int .i64 ((ts.length - l.length : Nat) : Int), .int .i64 E] 66 (0, 0))
  toks : ∀ j, j < ts.length → TokIn w bt (j * 5) (ts.getD j tok0)
  ne : bt ≠ pb
  blt : bt < w.heap.size
  suf : l <:+ ts
  fin : EndL l
  len : ts.length ≤ 1000000
  good : AllG 1099511627776 ts
  word : WordG ts
theorem Pa.lt {w : World} {pb bt cap : Nat} {ts l : List Tok} {E : Int} (h : Pa w pb bt cap ts l E) : pb < w.heap.size := Own.block_lt h.blk
theorem Pa.keep {w w' : World} {pb bt cap : Nat} {ts l : List Tok} {E : Int} (h : Pa w pb bt cap ts l E) (h1 : w'.heap[pb]? = w.heap[pb]?) (h2 : w'.heap[bt]? = w.heap[bt]?) (hs : w.heap.size ≤ w'.heap.size) : Pa w' pb bt cap ts l E :=
  ⟨h1.trans h.blk, fun j hj => by
    obtain ⟨a, b, c, d, e⟩ := h.toks j hj
    have q : ∀ o, w'.cell? ⟨bt, o, none⟩ = w.cell? ⟨bt, o, none⟩ := fun o => World.cell?_of_block (w := w) (a := ⟨bt, o, none⟩) h2
    exact ⟨(q _).trans a, (q _).trans b, (q _).trans c, (q _).trans d, (q _).trans e⟩, h.ne, Nat.lt_of_lt_of_le h.blt hs, h.suf, h.fin, h.len, h.good, h.word⟩
theorem Pa.below {w w' : World} {pb bt cap : Nat} {ts l : List Tok} {E : Int} (h : Pa w pb bt cap ts l E) (hb : Below w.heap.size w w') : Pa w' pb bt cap ts l E :=
  h.keep (hb.block _ h.lt) (hb.block _ h.blt) hb.size
theorem Pa.chg {w w' : World} {pb bt cap : Nat} {ts l : List Tok} {E : Int} {X : Nat → Prop} (h : Pa w pb bt cap ts l E) (hc : Chg X w w') (h1 : ¬ X pb) (h2 : ¬ X bt) : Pa w' pb bt cap ts l E :=
  h.keep (hc.block _ h.lt h1) (hc.block _ h.blt h2) hc.size
theorem Pa.at_ {w : World} {pb bt cap : Nat} {ts l : List Tok} {x : Tok} {E : Int} (h : Pa w pb bt cap ts (x :: l) E) : ts.length - (x :: l).length < ts.length ∧ ts.getD (ts.length - (x :: l).length) tok0 = x := by
  obtain ⟨p, hp⟩ := h.suf
  have hl := congrArg List.length hp
  rw [List.length_append] at hl
  have he : ts.length - (x :: l).length = p.length := by omega
  refine ⟨by simp at hl ⊢; omega, ?_⟩
  rw [he, ← hp, List.getD_eq_getElem?_getD, List.getElem?_append_right (Nat.le_refl _)]
  simp
/-- The token at which it stands, in memory. -/
theorem Pa.here {w : World} {pb bt cap : Nat} {ts l : List Tok} {x : Tok} {E : Int} (h : Pa w pb bt cap ts (x :: l) E) : TokIn w bt ((ts.length - (x :: l).length) * 5) x := by
  obtain ⟨h1, h2⟩ := h.at_
  have hT := h.toks _ h1
  rwa [h2] at hT
theorem three_of {w : World} {b : Nat} {T : TypeId} {f : Nat × Nat} {c0 c1 c2 : Value} (h : w.heap[b]? = some (.cells #[c0, c1, c2] T f)) : w.cell? ⟨b, 0, none⟩ = some c0 ∧ w.cell? ⟨b, 1, none⟩ = some c1 ∧ w.cell? ⟨b, 2, none⟩ = some c2 := by
  have k : ∀ i, w.cell? ⟨b, i, none⟩ = (#[c0, c1, c2] : Array Value)[i]? := fun i => cell_of_row _ _ _ _ _ _ h
  exact ⟨k 0, k 1, k 2⟩
theorem Pa.set {w : World} {pb bt cap : Nat} {ts l l' : List Tok} {E E' : Int} (h : Pa w pb bt cap ts l E) {i : Nat} {v : Value} (hs : l' <:+ ts) (hf : EndL l')
    (hb : (#[.slice (some ⟨bt, 0, none⟩) ts.length cap, .int .i64 ((ts.length - l.length : Nat) : Int), .int .i64 E] : Array Value).setIfInBounds i v = #[.slice (some ⟨bt, 0, none⟩) ts.length cap, .int .i64 ((ts.length - l'.length : Nat) : Int), .int .i64 E']) :
    Pa (w.setCell ⟨pb, i, none⟩ v) pb bt cap ts l' E' := by
  refine ⟨?_, fun j hj => ?_, h.ne, by simpa [World.setCell] using h.blt, hs, hf, h.len, h.good, h.word⟩
  · simp only [World.setCell]
    rw [Array.getElem?_modify, if_pos rfl, h.blk]
    simp only [Option.map_some]
    rw [← hb]
    rfl
  · obtain ⟨a, b, c, d, e⟩ := h.toks j hj
    have q : ∀ o v, (w.setCell ⟨pb, i, none⟩ v).cell? ⟨bt, o, none⟩ = w.cell? ⟨bt, o, none⟩ := fun o v => World.cell?_of_block (w := w) (a := ⟨bt, o, none⟩) (Below.heap_setCell _ _ _ _ h.ne)
    exact ⟨(q _ _).trans a, (q _ _).trans b, (q _ _).trans c, (q _ _).trans d, (q _ _).trans e⟩
/-- It has gone on by a token. -/
theorem Pa.next {w : World} {pb bt cap : Nat} {ts l : List Tok} {x : Tok} {E : Int} (h : Pa w pb bt cap ts (x :: l) E) (hx : x.k ≠ 5) :
    Pa (w.setCell ⟨pb, 1, none⟩ (.int .i64 (((ts.length - (x :: l).length : Nat) : Int) + 1))) pb bt cap ts l E := by
  have h1 := h.at_.1
  have hl := h.suf.length_le
  simp at hl
  refine h.set ((List.suffix_cons x l).trans h.suf) (h.fin.tail hx) ?_
  rw [show (((ts.length - (x :: l).length : Nat) : Int) + 1) = ((ts.length - l.length : Nat) : Int) by simp at h1 ⊢; omega]
  rfl
/-- It tells an error. -/
theorem Pa.err {w : World} {pb bt cap : Nat} {ts l : List Tok} {E : Int} (h : Pa w pb bt cap ts l E) (E' : Int) : Pa (w.setCell ⟨pb, 2, none⟩ (.int .i64 E')) pb bt cap ts l E' :=
  h.set h.suf h.fin rfl
theorem Pa.pos {w : World} {pb bt cap : Nat} {ts l : List Tok} {E : Int} (h : Pa w pb bt cap ts l E) : ts.length - posOf w pb = l.length := by
  unfold posOf
  rw [(three_of h.blk).2.1]
  have := h.suf.length_le
  simp [intOf]
  omega
theorem chg_drewN {X : Nat → Prop} {a w : World} (h : Chg X a w) (n : Nat) : Chg X a (w.drewN n) := h.trans (.of_below (below_drewN (Below.refl _ _) n))
theorem Pa.drewN {w : World} {pb bt cap : Nat} {ts l : List Tok} {E : Int} (h : Pa w pb bt cap ts l E) (n : Nat) : Pa (w.drewN n) pb bt cap ts l E := h.below (below_drewN (Below.refl _ _) n)

set_option maxHeartbeats 4000000 in
set_option maxRecDepth 100000 in
theorem is_any {w : World} {pb bt cap : Nat} {ts l : List Tok} {x : Tok} {E : Int} (h : Pa w pb bt cap ts (x :: l) E) (c : UInt8) (s : ByteArray) (hs : (⟨#[c]⟩ : ByteArray) = s) :
    Calls Tryz.prog 51 #[.pointer (some ⟨pb, 0, none⟩), .string s] w fun e w' => e = .returned (.bool (decide (E = 0) && sgB x c)) ∧ Pa w' pb bt cap ts (if (decide (E = 0) && sgB x c) = true then l else x :: l) E ∧ Chg (· = pb) w w' := by
  subst hs
  have HP := Lib.hid h
  have HX := h.here
  obtain ⟨x0, x1, -, -, -⟩ := HX
  obtain ⟨r0, r1, r2⟩ := three_of h.blk
  have hpl := h.lt
  have htl := h.blt
  have hle := h.at_.1
  have i1 : ((ts.length - (x :: l).length : Nat) : Int) < (ts.length : Int) := by omega
  have hln := h.len
  have pf := free_of h.blk 1
  have HN := Lib.hid (fun hx n => (h.drewN n).next (x := x) hx)
  clear h
  generalize hP : ts.length - (x :: l).length = P at *
  obtain ⟨NN, HNN⟩ : ∃ N, Hid (ts.length = N) := ⟨_, rfl⟩
  rw [HNN.out] at i1 hln hle r0
  by_cases hE : E = 0
  · subst hE
    by_cases hk : x.k = 1
    · by_cases ht : x.t = [c]
      · have hsg : sgB x c = true := by unfold sgB; simp [hk, ht]
        rw [hsg, decide_eq_true rfl]
        rw [hk] at x0
        rw [ht] at x1
        have HK : Hid (x.k ≠ 5) := by show _ ≠ _; omega
        clear hk ht hsg
        go_enter Tryz.func51, Tryz.ntmps51
        go_wp2_with fail
        go_quiet (fail)
        go_wp2_with fail
        go_ret
        exact ⟨rfl, HN.out HK.out nq, Chg.setCell (X := fun k => k = pb) (chg_drewN (Chg.refl _ w) nq) (p := ⟨pb, 1, none⟩) (.inl rfl) _⟩
      · have hsg : sgB x c = false := by unfold sgB; simp [hk, ht]
        have hne : (x.t == [c]) = false := by simpa using ht
        rw [hsg, Bool.and_false]
        rw [hk] at x0
        clear hk ht hsg
        generalize x.t = T at *
        go_enter Tryz.func51, Tryz.ntmps51
        go_wp2_with fail
        go_quiet (fail)
        go_wp2_with fail
        go_ret
        exact ⟨rfl, HP.out.drewN nq, chg_drewN (Chg.refl _ w) nq⟩
    · have hsg : sgB x c = false := by unfold sgB; simp [hk]
      have hne : ((x.k : Int) == 1) = false := by simp; omega
      rw [hsg, Bool.and_false]
      clear hk hsg
      generalize x.k = K at *
      go_enter Tryz.func51, Tryz.ntmps51
      go_wp2_with fail
      go_quiet (fail)
      go_wp2_with fail
      go_ret
      exact ⟨rfl, HP.out.drewN nq, chg_drewN (Chg.refl _ w) nq⟩
  · have hne : (E == 0) = false := by simpa using hE
    rw [decide_eq_false hE, Bool.false_and]
    clear hE
    go_enter Tryz.func51, Tryz.ntmps51
    go_wp2_with fail
    go_quiet (fail)
    go_wp2_with fail
    go_ret
    exact ⟨rfl, HP.out.drewN nq, chg_drewN (Chg.refl _ w) nq⟩
/-- What must leaves. -/
def mustE (x : Tok) (c : UInt8) (E : Int) : Int := if E = 0 then (if sgB x c = true then 0 else 40) else E
set_option maxHeartbeats 1000000 in
set_option maxRecDepth 100000 in
theorem must_any {w : World} {pb bt cap : Nat} {ts l : List Tok} {x : Tok} {E : Int} (h : Pa w pb bt cap ts (x :: l) E) (c : UInt8) (s : ByteArray) (hs : (⟨#[c]⟩ : ByteArray) = s) :
    Calls Tryz.prog 52 #[.pointer (some ⟨pb, 0, none⟩), .string s] w fun e w' => e = .returned (.tuple #[]) ∧ Pa w' pb bt cap ts (if (decide (E = 0) && sgB x c) = true then l else x :: l) (mustE x c E) ∧ Chg (· = pb) w w' := by
  have I1 := Lib.hid (is_any h c s hs)
  unfold mustE
  by_cases hE : E = 0
  · subst hE
    rw [if_pos rfl]
    cases hsg : sgB x c with
    | true =>
      rw [hsg] at I1
      simp only [decide_true, Bool.and_self, if_true] at I1 ⊢
      go_enter Tryz.func52, Tryz.ntmps52
      go_wp2_with (go_at_call 51; (with_reducible refine (I1.out).mono ?_); rintro e1 w1 ⟨rfl, hP1, hc1⟩)
      go_end0
      exact ⟨rfl, hP1, hc1⟩
    | false =>
      rw [hsg] at I1
      simp only [Bool.and_false, Bool.false_eq_true, if_false] at I1 ⊢
      go_enter Tryz.func52, Tryz.ntmps52
      go_wp2_with (go_at_call 51; (with_reducible refine (I1.out).mono ?_); rintro e1 w1 ⟨rfl, hP1, hc1⟩; obtain ⟨r0, r1, r2⟩ := three_of hP1.blk; have pf := free_of hP1.blk 2; have hpl := hP1.lt; have HP1 := Lib.hid hP1; have HC1 := Lib.hid hc1; clear hP1 hc1)
      go_end0
      exact ⟨rfl, HP1.out.err 40, Chg.setCell (X := fun k => k = pb) HC1.out (p := ⟨pb, 2, none⟩) (.inl rfl) _⟩
  · rw [if_neg hE, decide_eq_false hE]
    rw [decide_eq_false hE] at I1
    simp only [Bool.false_and, Bool.false_eq_true, if_false] at I1 ⊢
    have hne : (E == 0) = false := by simpa using hE
    clear hE
    go_enter Tryz.func52, Tryz.ntmps52
    go_wp2_with (go_at_call 51; (with_reducible refine (I1.out).mono ?_); rintro e1 w1 ⟨rfl, hP1, hc1⟩; obtain ⟨r0, r1, r2⟩ := three_of hP1.blk; have HP1 := Lib.hid hP1; have HC1 := Lib.hid hc1; have hpl := hP1.lt; clear hP1 hc1)
    go_end0
    exact ⟨rfl, HP1.out, HC1.out⟩
set_option maxHeartbeats 1000000 in
theorem has_any (S : Nat → Prop) (v : Value) (ns : List (List UInt8)) (n : List UInt8) (w : World) (h : StrsAt S w v ns) : Calls Tryz.prog 38 #[v, .string ⟨n.toArray⟩] w (Ret (.bool (ns.contains n)) w) := by
  obtain ⟨ao, cap, rfl, _, hl, _, hc⟩ := h
  have HC := Lib.hid hc
  clear hc
  obtain ⟨N, HN⟩ : ∃ N, Hid (ns.length = N) := ⟨_, rfl⟩
  have HC2 : Hid (∀ k, k < N → ∃ b off, ao = some ⟨b, off, none⟩ ∧ b < w.heap.size ∧ w.cell? ⟨b, off + k, none⟩ = some (.string ⟨(ns.getD k []).toArray⟩)) := fun k hk => by
    obtain ⟨b, off, h1, _, h2, h3⟩ := HC.out (by rw [HN.out]; omega)
    exact ⟨b, off, h1, h2, h3 k (by rw [HN.out]; exact hk)⟩
  clear HC
  rw [HN.out] at hl ⊢
  go_enter Tryz.func38, Tryz.ntmps38
  go_wp2_with fail
  go_loopw [5] (fun i wr => ∃ k : Nat, k ≤ N ∧ i = .int .i64 k ∧ Hid ((ns.drop k).contains n = ns.contains n) ∧ w = wr) (fun i _ => N - (intOf i).toNat)
  case atStart => exact ⟨0, Nat.zero_le _, rfl, rfl, rfl⟩
  case round =>
    obtain ⟨k, hk, rfl, HD, rfl⟩ := hrel
    by_cases hlt : k < N
    · obtain ⟨b, off, rfl, hb, hcell⟩ := HC2.out k hlt
      have HS := Lib.hid (List.drop_eq_getElem_cons (l := ns) (i := k) (by rw [HN.out]; exact hlt))
      have he : ns.getD k [] = ns[k]'(by rw [HN.out]; exact hlt) := by rw [List.getD_eq_getElem?_getD, List.getElem?_eq_getElem (by rw [HN.out]; exact hlt)]; rfl
      rw [he] at hcell
      clear he
      generalize ns[k]'(by rw [HN.out]; exact hlt) = xn at *
      by_cases heq : (xn == n) = true
      · have HEQ := Lib.hid heq
        go_wp2_with fail
        go_ret
        refine ⟨?_, Below.refl _ _⟩
        rw [← HD.out, HS.out, List.contains_cons, show (n == xn) = true by have := HEQ.out; simp at this ⊢; exact this.symm]
        rfl
      · have heq' : (xn == n) = false := by simpa using heq
        clear heq
        have HEQ := Lib.hid heq'
        go_wp2_with fail
        go_roundw
        case rel => exact ⟨k + 1, by omega, by go_num, by
          show _ = _
          rw [← HD.out, HS.out, List.contains_cons, show (n == xn) = false by have := HEQ.out; simp at this ⊢; exact fun h => this h.symm, Bool.false_or], trivial⟩
        case measure => simp [intOf]; omega
    · obtain rfl : k = N := by omega
      go_wp2_with fail
      go_ret
      refine ⟨?_, Below.refl _ _⟩
      rw [← HD.out, List.drop_eq_nil_of_le (by rw [HN.out]; exact Nat.le_refl _)]
      rfl
end Go.Proofs.YtmlpefpjemiccaaGreatDoor.Js
