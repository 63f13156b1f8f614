import Derived.Test.YtoioidafnedneaaGreatDoorAlike
/- Plain: words with a sign between. -/
set_option linter.unusedVariables false
set_option linter.unusedSimpArgs false
namespace Go.Proofs.YtoioidafnedneaaGreatDoor.Lex
open Go.RowKit
open Quo (pickS pickS_nonneg pickS_lt IntsAt textR)

/-- A token without its place. -/
def kt (x : Tok) : Nat × List UInt8 × Int × Int := (x.k, x.t, x.m, x.e)
theorem alike_of_map {a b : List Tok} (h : a.map kt = b.map kt) : Alike2 a b := by
  have hl : a.length = b.length := by simpa using congrArg List.length h
  refine ⟨hl, fun j hj => ?_⟩
  have h1 := congrArg (fun l => l[j]?) h
  simp only [List.getElem?_map, List.getElem?_eq_getElem hj, List.getElem?_eq_getElem (hl ▸ hj : j < b.length), Option.map_some, Option.some.injEq] at h1
  rw [List.getD_eq_getElem?_getD, List.getD_eq_getElem?_getD, List.getElem?_eq_getElem hj, List.getElem?_eq_getElem (hl ▸ hj : j < b.length)]
  simp only [Option.getD_some]
  generalize a[j] = x at h1
  generalize b[j]'(hl ▸ hj) = y at h1
  obtain ⟨K, T, M, E, p⟩ := x
  obtain ⟨K', T', M', E', q⟩ := y
  simp only [kt, Prod.mk.injEq] at h1
  obtain ⟨rfl, rfl, rfl, rfl⟩ := h1
  exact ⟨_, _, _, _, _, _, rfl, rfl⟩
theorem wordsT_kt (ws : List (List UInt8 × Tok)) (n : Nat) : (wordsT n ws).1.map kt = ws.map fun q => kt q.2 := by
  induction ws generalizing n with
  | nil => rfl
  | cons q r ih => obtain ⟨w, x⟩ := q; simp only [wordsT, List.map_cons]; rw [ih]; rfl
/-- Words, each with a blank ahead. -/
def afterL (ws : List (List UInt8 × Tok)) : List UInt8 := ws.flatMap fun q => 32 :: q.1
def afterT (n : Nat) : List (List UInt8 × Tok) → List Tok × Nat
  | [] => ([], n)
  | (w, x) :: r => (x.at_ (n + 1) :: (afterT (n + 1 + w.length) r).1, (afterT (n + 1 + w.length) r).2)
theorem afterT_kt (ws : List (List UInt8 × Tok)) (n : Nat) : (afterT n ws).1.map kt = ws.map fun q => kt q.2 := by
  induction ws generalizing n with
  | nil => rfl
  | cons q r ih => obtain ⟨w, x⟩ := q; simp only [afterT, List.map_cons]; rw [ih]; rfl
theorem afterT_len (ws : List (List UInt8 × Tok)) (n : Nat) : (afterT n ws).1.length = ws.length := by
  have := congrArg List.length (afterT_kt ws n); simpa using this
theorem fin_after (ws : List (List UInt8 × Tok)) : Fin (afterL ws) := by
  cases ws with
  | nil => exact fin_nil
  | cons q r => exact fin_blank blank32 _
theorem scan_after {ws : List (List UInt8 × Tok)} (h : ∀ q ∈ ws, IsW q.1 q.2) (n : Nat) : scanL (afterL ws) n = .inr ((afterT n ws).1 ++ [⟨5, [], 0, 0, (afterT n ws).2⟩]) := by
  induction ws generalizing n with
  | nil => rw [show afterL [] = [] from rfl, scanL_nil]; rfl
  | cons q r ih =>
    obtain ⟨w, x⟩ := q
    rw [show afterL ((w, x) :: r) = 32 :: (w ++ afterL r) by simp [afterL], scanL_blank blank32, scan_word (h (w, x) (by simp)) (fin_after r), ih (fun q hq => h q (by simp [hq]))]
    rfl
theorem afterL_snoc (ws : List (List UInt8 × Tok)) (q : List UInt8 × Tok) : afterL (ws ++ [q]) = afterL ws ++ [32] ++ q.1 := by simp [afterL]
theorem afterL_len (ws : List (List UInt8 × Tok)) : (afterL ws).length = (wordsL ws).length := by
  unfold afterL wordsL
  induction ws with
  | nil => rfl
  | cons q r ih => simp only [List.flatMap_cons, List.length_append, List.length_cons, List.length_nil, ih]

/-- The last blank left out, and a sign behind. -/
theorem scan_sign_after {ws : List (List UInt8 × Tok)} (h : ∀ q ∈ ws, IsW q.1 q.2) {c : UInt8} (hc : signB c = true) (rest : List UInt8) :
    ∃ (L : List Tok) (p : Nat), scanL ((wordsL ws).take ((wordsL ws).length - 1) ++ c :: rest) 0 = combR L (scanL rest p) ∧ L.map kt = (ws.map fun q => kt q.2) ++ [(1, [c], 0, 0)] := by
  rcases List.eq_nil_or_concat ws with rfl | ⟨init, q, rfl⟩
  · refine ⟨[⟨1, [c], 0, 0, 0⟩], 1, ?_, rfl⟩
    rw [show (wordsL []).take ((wordsL []).length - 1) ++ c :: rest = c :: rest from rfl]
    have hf : firstL (c :: rest) = (⟨1, [c], 0, 0, 0⟩, 1) := by simp [firstL, hc]
    rw [scanL_tok (l := c :: rest) (by simp) (sign_facts hc).2.2 (by rw [hf]; simp), hf, consR_comb]
    rfl
  · obtain ⟨w, x⟩ := q
    have h1 : IsW w x := h (w, x) (by simp)
    have e : (wordsL (init ++ [(w, x)])).take ((wordsL (init ++ [(w, x)])).length - 1) = wordsL init ++ w := by
      rw [wordsL_snoc, List.take_append_of_le_length (by simp)]
      exact List.take_of_length_le (by simp)
    rw [List.concat_eq_append, e, List.append_assoc, scan_words (fun q hq => h q (by simp [hq])), scan_word h1 (fin_sign hc _)]
    have hf : firstL (c :: rest) = (⟨1, [c], 0, 0, 0⟩, 1) := by simp [firstL, hc]
    rw [scanL_tok (l := c :: rest) (by simp) (sign_facts hc).2.2 (by rw [hf]; simp), hf, consR_comb, combR_comb, consR_comb, combR_comb]
    refine ⟨_, _, rfl, ?_⟩
    simp [wordsT_kt, kt, Tok.at_]
theorem signL_one (j : Int) : ∃ c, signL j = [c] ∧ signB c = true := by
  unfold signL
  repeat' split
  all_goals exact ⟨_, rfl, by decide⟩
/-- What is scanned, and what it is held against. -/
theorem join_alike {ws1 ws2 : List (List UInt8 × Tok)} (h1 : ∀ q ∈ ws1, IsW q.1 q.2) (h2 : ∀ q ∈ ws2, IsW q.1 q.2) (j : Int) (hl1 : (wordsL ws1).length ≤ 6000) (hl2 : (afterL ws2).length ≤ 6000) :
    ∃ D, scanS ((wordsL ws1).take ((wordsL ws1).length - 1) ++ signL j ++ afterL ws2) = .inr D ∧
      Alike2 D ((wordsT 0 ws1).1 ++ [⟨1, signL j, 0, 0, 0⟩] ++ ((afterT 0 ws2).1 ++ [⟨5, [], 0, 0, (afterT 0 ws2).2⟩])) := by
  obtain ⟨c, hc, hs⟩ := signL_one j
  obtain ⟨L, p, e, hL⟩ := scan_sign_after h1 hs (afterL ws2)
  rw [scan_after h2] at e
  refine ⟨L ++ ((afterT p ws2).1 ++ [⟨5, [], 0, 0, (afterT p ws2).2⟩]), ?_, alike_of_map ?_⟩
  · unfold scanS
    rw [if_neg (by rw [hc]; simp; omega), hc, List.append_assoc]
    exact e
  · simp only [List.map_append, hL, hc, wordsT_kt, afterT_kt]
    simp [kt]
theorem scanS_after {ws : List (List UInt8 × Tok)} (h : ∀ q ∈ ws, IsW q.1 q.2) (hl : (afterL ws).length ≤ 20000) : scanS (afterL ws) = .inr ((afterT 0 ws).1 ++ [⟨5, [], 0, 0, (afterT 0 ws).2⟩]) := by
  unfold scanS
  rw [if_neg (by omega), scan_after h]

theorem toks_cells {w : World} {b : Nat} {l : List Tok} (h : ∀ j, j < l.length → TokIn w b (j * 5) (l.getD j tok0)) : ∀ j u, (l.flatMap cellsT)[j]? = some u → w.cell? ⟨b, j, none⟩ = some u := by
  intro j u hu
  have hj : j < l.length * 5 := by
    have := (List.getElem?_eq_some_iff.1 hu).1; rwa [cellsT_len] at this
  have hq : j / 5 < l.length := by omega
  have hd : j / 5 * 5 + j % 5 = j := by omega
  have hg := flat_get l (j / 5) (j % 5) hq (by omega)
  rw [hd, hu] at hg
  obtain ⟨c0, c1, c2, c3, c4⟩ := h (j / 5) hq
  rw [← hd]
  rcases (show j % 5 = 0 ∨ j % 5 = 1 ∨ j % 5 = 2 ∨ j % 5 = 3 ∨ j % 5 = 4 by omega) with e | e | e | e | e
  all_goals
    rw [e] at hg ⊢
    rw [hg]
  · exact c0.trans rfl
  · exact c1.trans rfl
  · exact c2.trans rfl
  · exact c3.trans rfl
  · exact c4.trans rfl

/-- Tokens are appended to a slice of tokens of one's own. -/
theorem append_toks {W : World} {ops : Array Oper} {rest : List Oper} {o : Oper} {a : Act} {Q : Exit → Act → World → Prop} (hgd : o.guard = none) (s x : Operand)
    (ho : o.op = .call { callee := .builtin .append, args := #[s, x], argTypes := #[30, 30] }) (base : Nat) (v : Value) (acc : List Tok) (hs : a.eval s = v) (hown : ToksOwn W base v acc)
    (l : List Tok) (B c n : Nat) (hx : a.eval x = .slice (some ⟨B, 0, none⟩) n c) (hn : n = l.length) (hT : ∀ j, j < l.length → TokIn W B (j * 5) (l.getD j tok0)) (hlen : acc.length + l.length ≤ 1000000) (hbase : base ≤ W.heap.size)
    (h : ∀ v' w', ToksOwn w' base v' (acc ++ l) → Below base W w' → wpList Tryz.prog ops Q rest (a.put o.dst v') w') : wpList Tryz.prog ops Q (o :: rest) a W := by
  subst hn
  obtain ⟨i0, hi0, hz0, hz1, hz2⟩ := info_parts tok_info
  refine wpList_append_own W hgd s x 30 ho base 37 i0 _ 5 48 Tryz.underlying30 hi0 hz0 hz1 hz2 rfl (by decide) v acc.length (acc.flatMap cellsT) hs hown ⟨B, 0, none⟩ l.length c (l.flatMap cellsT) hx (cellsT_len l) ?_ ?_ (by unfold maxLen; omega) (by omega) hbase ?_
  · intro j u hu
    rw [show (⟨B, 0, none⟩ : Addr).add j = ⟨B, j, none⟩ by simp only [Addr.add]; split <;> simp_all]
    exact toks_cells hT j u hu
  · intro u hu
    obtain ⟨t, _, ht⟩ := List.mem_flatMap.1 hu
    exact cellsT_one t u ht
  · intro v' w' h2 h3 _
    refine h v' w' ?_ ((Below.refl _ _).grown h3 hbase (fun k hk => (World.ownsRow.lt hown k hk).1))
    unfold ToksOwn
    rw [List.length_append, List.flatMap_append]
    exact h2
end Go.Proofs.YtoioidafnedneaaGreatDoor.Lex
