import Derived.Laws.BitsAllLaws
/- Layer 7, plain: parts of texts, names, topics, filters. -/
set_option linter.unusedVariables false
set_option linter.unusedSimpArgs false
namespace Go.Proofs.Ytnjcfnmdelpecaa.Tp

/-- What stands between a text's slashes. -/
def partsL : List UInt8 → List (List UInt8)
  | [] => [[]]
  | c :: r => if c = 47 then [] :: partsL r else match partsL r with
    | p :: ps => (c :: p) :: ps
    | [] => [[c]]
theorem partsL_ne : ∀ l, partsL l ≠ []
  | [] => by simp [partsL]
  | c :: r => by
    rw [partsL]
    by_cases h : c = 47
    · rw [if_pos h]; simp
    · rw [if_neg h]; split <;> simp
theorem partsL_cons {l : List UInt8} : ∃ p ps, partsL l = p :: ps := by
  cases h : partsL l with
  | nil => exact absurd h (partsL_ne l)
  | cons p ps => exact ⟨p, ps, rfl⟩
theorem partsL_app : ∀ a b : List UInt8, partsL (a ++ 47 :: b) = partsL a ++ partsL b
  | [], b => by simp [partsL]
  | c :: a, b => by
    rw [List.cons_append, partsL, partsL, partsL_app a b]
    by_cases h : c = 47
    · rw [if_pos h, if_pos h]; rfl
    · rw [if_neg h, if_neg h]
      obtain ⟨p, ps, e⟩ := partsL_cons (l := a)
      rw [e]
      rfl
theorem partsL_one : ∀ a : List UInt8, 47 ∉ a → partsL a = [a]
  | [], _ => rfl
  | c :: a, h => by
    rw [partsL, if_neg (fun e => h (by simp [e])), partsL_one a (fun x => h (List.mem_cons_of_mem _ x))]
theorem partsL_head (a b : List UInt8) (h : 47 ∉ a) : partsL (a ++ 47 :: b) = a :: partsL b := by
  rw [partsL_app, partsL_one a h]; rfl
/-- A text has no slash, or a first one. -/
theorem slash_cases (l : List UInt8) : 47 ∉ l ∨ ∃ a b, l = a ++ 47 :: b ∧ 47 ∉ a := by
  by_cases h : 47 ∈ l
  · obtain ⟨a, b, e, hn⟩ := List.eq_append_cons_of_mem h
    exact .inr ⟨a, b, e, hn⟩
  · exact .inl h
/-- A text's parts, each with whether it is the last one. -/
def tagL : List (List UInt8) → List (List UInt8 × Bool)
  | [] => []
  | [p] => [(p, true)]
  | p :: q :: r => (p, false) :: tagL (q :: r)
theorem tagL_cons {p : List UInt8} {r : List (List UInt8)} (h : r ≠ []) : tagL (p :: r) = (p, false) :: tagL r := by
  cases r with
  | nil => exact absurd rfl h
  | cons q r => rfl
theorem tagL_len : ∀ l, (tagL l).length = l.length
  | [] => rfl
  | [p] => rfl
  | p :: q :: r => by rw [tagL]; simp [tagL_len (q :: r)]
theorem tagL_fst : ∀ l, (tagL l).map (·.1) = l
  | [] => rfl
  | [p] => rfl
  | p :: q :: r => by rw [tagL]; simp [tagL_fst (q :: r)]
/-- What is still to come of a text's parts, where 'more' says whether there are any. -/
def remS (rest : List UInt8) (more : Bool) : List (List UInt8) := if more then partsL rest else []
theorem remS_no (rest : List UInt8) : remS rest false = [] := rfl
theorem remS_yes (rest : List UInt8) : remS rest true = partsL rest := rfl

/-- A filter's part against what is left of a name's parts: it is told, or what is then left. -/
def mstep (n : List (List UInt8)) (x : List UInt8 × Bool) : Bool ⊕ List (List UInt8) :=
  if x.2 = true ∧ x.1 = [35] then .inl true else if n = [] then .inl false else if x.1 = [43] ∨ x.1 = n.headD [] then .inr n.tail else .inl false
def mrun : List (List UInt8 × Bool) → List (List UInt8) → Bool ⊕ List (List UInt8)
  | [], n => .inr n
  | x :: xs, n => match mstep n x with
    | .inl b => .inl b
    | .inr m => mrun xs m
def mfin : Bool ⊕ List (List UInt8) → Bool
  | .inl b => b
  | .inr n => n.isEmpty
theorem mrun_app : ∀ (xs ys : List (List UInt8 × Bool)) (n : List (List UInt8)), mrun (xs ++ ys) n = match mrun xs n with | .inl b => .inl b | .inr m => mrun ys m
  | [], ys, n => rfl
  | x :: xs, ys, n => by
    rw [List.cons_append]
    simp only [mrun]
    cases mstep n x with
    | inl b => rfl
    | inr m => exact mrun_app xs ys m
theorem mrun_one (x : List UInt8 × Bool) (n : List (List UInt8)) : mrun [x] n = mstep n x := by
  simp only [mrun]
  cases mstep n x <;> rfl
theorem mrun_snoc {n m : List (List UInt8)} {pre : List (List UInt8 × Bool)} (x : List UInt8 × Bool) (h : mrun pre n = .inr m) : mrun (pre ++ [x]) n = mstep m x := by
  rw [mrun_app, h]
  exact mrun_one x m
theorem mrun_stays {n : List (List UInt8)} {pre xs : List (List UInt8 × Bool)} {b : Bool} (h : mrun pre n = .inl b) (hp : pre <+: xs) : mrun xs n = .inl b := by
  obtain ⟨ys, rfl⟩ := hp
  rw [mrun_app, h]
/-- Whether a filter's parts match a name's. -/
def matchP : List (List UInt8) → List (List UInt8) → Bool
  | [], n => n.isEmpty
  | p :: f, n => if f = [] ∧ p = [35] then true else if n = [] then false else if p = [43] ∨ p = n.headD [] then matchP f n.tail else false
theorem mP0 (n : List (List UInt8)) : matchP [] n = n.isEmpty := rfl
theorem mP1 (p : List UInt8) (f n : List (List UInt8)) : matchP (p :: f) n = if f = [] ∧ p = [35] then true else if n = [] then false else if p = [43] ∨ p = n.headD [] then matchP f n.tail else false := rfl
theorem mP2 (p h : List UInt8) (f n : List (List UInt8)) : matchP (p :: f) (h :: n) = if f = [] ∧ p = [35] then true else if p = [43] ∨ p = h then matchP f n else false := by
  rw [mP1, if_neg (show ¬ (h :: n = []) by simp)]
  rfl
theorem mrun_match : ∀ f n : List (List UInt8), mfin (mrun (tagL f) n) = matchP f n
  | [], n => rfl
  | [p], n => by
    rw [tagL, mrun_one, mP1]
    unfold mstep
    by_cases h : p = [35]
    · rw [if_pos ⟨rfl, h⟩, if_pos ⟨rfl, h⟩]; rfl
    · rw [if_neg (fun x => h x.2), if_neg (fun x : _ ∧ _ => h x.2)]
      by_cases hn : n = []
      · rw [if_pos hn, if_pos hn]; rfl
      · rw [if_neg hn, if_neg hn]
        by_cases h2 : p = [43] ∨ p = n.headD []
        · rw [if_pos h2, if_pos h2]; rfl
        · rw [if_neg h2, if_neg h2]; rfl
  | p :: q :: r, n => by
    rw [tagL, mP1, if_neg (show ¬ (q :: r = [] ∧ p = [35]) by simp)]
    simp only [mrun]
    unfold mstep
    rw [if_neg (show ¬ (false = true ∧ p = [35]) by simp)]
    by_cases hn : n = []
    · rw [if_pos hn, if_pos hn]; rfl
    · rw [if_neg hn, if_neg hn]
      by_cases h2 : p = [43] ∨ p = n.headD []
      · rw [if_pos h2, if_pos h2]; exact mrun_match (q :: r) n.tail
      · rw [if_neg h2, if_neg h2]; rfl
/-- Whether a topic is one of a filter's. -/
def matchS (f n : List UInt8) : Bool := matchP (partsL f) (partsL n)

theorem matchP_self : ∀ f : List (List UInt8), matchP f f = true
  | [] => rfl
  | p :: f => by
    rw [mP2]
    by_cases h : f = [] ∧ p = [35]
    · rw [if_pos h]
    · rw [if_neg h, if_pos (.inr rfl)]; exact matchP_self f
/-- A part that is no sign. -/
def plainP (p : List UInt8) : Prop := p ≠ [43] ∧ p ≠ [35]
theorem matchP_plain : ∀ (f n : List (List UInt8)), (∀ p ∈ f, plainP p) → matchP f n = decide (f = n)
  | [], [], _ => rfl
  | [], h :: n, _ => by simp [mP0]
  | p :: f, [], hp => by
    have h1 := hp p (by simp)
    rw [mP1, if_neg (fun x => h1.2 x.2), if_pos rfl]
    simp
  | p :: f, h :: n, hp => by
    have h1 := hp p (by simp)
    rw [mP2, if_neg (fun x => h1.2 x.2)]
    by_cases e : p = h
    · rw [if_pos (.inr e), matchP_plain f n (fun q hq => hp q (by simp [hq])), e]; simp
    · rw [if_neg (fun x => x.elim h1.1 e)]; simp [e]
/-- A filter that ends in no hash matches as many parts as it has. -/
theorem matchP_len : ∀ (f n : List (List UInt8)), f.getLast? ≠ some [35] → f.length ≠ n.length → matchP f n = false
  | [], [], _, h => absurd rfl h
  | [], h :: n, _, _ => rfl
  | p :: f, n, hl, hn => by
    have hne : ¬ (f = [] ∧ p = [35]) := by
      rintro ⟨rfl, rfl⟩
      exact hl rfl
    cases n with
    | nil => rw [mP1, if_neg hne, if_pos rfl]
    | cons h n =>
      rw [mP2, if_neg hne]
      by_cases e : p = [43] ∨ p = h
      · rw [if_pos e]
        cases f with
        | nil =>
          cases n with
          | nil => simp at hn
          | cons => rfl
        | cons q f => exact matchP_len (q :: f) n (by simpa using hl) (by simpa using hn)
      · rw [if_neg e]
theorem matchP_hash : ∀ (f n : List (List UInt8)), matchP (f ++ [[35]]) (f ++ n) = true
  | [], n => by
    rw [List.nil_append, mP1, if_pos ⟨rfl, rfl⟩]
  | p :: f, n => by
    rw [List.cons_append, List.cons_append, mP2, if_neg (by simp), if_pos (.inr rfl)]
    exact matchP_hash f n
theorem matchP_plus : ∀ (f g : List (List UInt8)) (p : List UInt8), matchP (f ++ [43] :: g) (f ++ p :: g) = true
  | [], g, p => by
    rw [List.nil_append, List.nil_append, mP2, if_neg (by simp), if_pos (.inl rfl)]
    exact matchP_self g
  | q :: f, g, p => by
    rw [List.cons_append, List.cons_append, mP2, if_neg (by simp), if_pos (.inr rfl)]
    exact matchP_plus f g p

/-- A name's byte. -/
def ofB (c : UInt8) : Bool := decide (c.toNat = 95 ∨ c.toNat = 46 ∨ c.toNat = 58 ∨ c.toNat = 45 ∨ (97 ≤ c.toNat ∧ c.toNat ≤ 122) ∨ (65 ≤ c.toNat ∧ c.toNat ≤ 90) ∨ (48 ≤ c.toNat ∧ c.toNat ≤ 57))
def nameB (l : List UInt8) : Bool := decide (1 ≤ l.length ∧ l.length ≤ 16) && l.all ofB
def orderL : List UInt8 := [111, 114, 100, 101, 114]
def instL : List UInt8 := [105, 110, 115, 116, 97, 110, 116, 65, 99, 116, 105, 111, 110, 115]
def stateL : List UInt8 := [115, 116, 97, 116, 101]
def connL : List UInt8 := [99, 111, 110, 110, 101, 99, 116, 105, 111, 110]
def visL : List UInt8 := [118, 105, 115, 117, 97, 108, 105, 122, 97, 116, 105, 111, 110]
def kindB (k : List UInt8) : Bool := decide (k = orderL ∨ k = instL ∨ k = stateL ∨ k = connL ∨ k = visL)
def startL : List UInt8 := [117, 97, 103, 118, 47, 118, 50, 47]
def uagvL : List UInt8 := [117, 97, 103, 118]
def v2L : List UInt8 := [118, 50]
def okT (m s k : List UInt8) : Bool := nameB m && nameB s && kindB k
def printL (m s k : List UInt8) : List UInt8 := startL ++ (m ++ 47 :: (s ++ 47 :: k))
def printS (m s k : List UInt8) : Option (List UInt8) := if okT m s k = true then some (printL m s k) else none

theorem name_len {l : List UInt8} (h : nameB l = true) : 1 ≤ l.length ∧ l.length ≤ 16 := by
  simp only [nameB, Bool.and_eq_true, decide_eq_true_eq] at h; exact h.1
theorem name_of {l : List UInt8} (h : nameB l = true) : ∀ c ∈ l, ofB c = true := by
  simp only [nameB, Bool.and_eq_true, List.all_eq_true] at h; exact h.2
theorem name_no {l : List UInt8} (h : nameB l = true) {c : UInt8} (hc : ofB c = false) : c ∉ l := fun hm => by
  have := name_of h c hm; rw [hc] at this; cases this
theorem name_47 {l : List UInt8} (h : nameB l = true) : 47 ∉ l := name_no h rfl
theorem name_plain {l : List UInt8} (h : nameB l = true) : plainP l :=
  ⟨fun e => name_no h (c := 43) rfl (by rw [e]; simp), fun e => name_no h (c := 35) rfl (by rw [e]; simp)⟩
theorem kind_cases {k : List UInt8} (h : kindB k = true) : k = orderL ∨ k = instL ∨ k = stateL ∨ k = connL ∨ k = visL := by
  simpa [kindB] using h
theorem kind_name {k : List UInt8} (h : kindB k = true) : nameB k = true := by
  rcases kind_cases h with rfl | rfl | rfl | rfl | rfl <;> rfl
theorem okT_m {m s k : List UInt8} (h : okT m s k = true) : nameB m = true := by
  simp only [okT, Bool.and_eq_true] at h; exact h.1.1
theorem okT_s {m s k : List UInt8} (h : okT m s k = true) : nameB s = true := by
  simp only [okT, Bool.and_eq_true] at h; exact h.1.2
theorem okT_k {m s k : List UInt8} (h : okT m s k = true) : kindB k = true := by
  simp only [okT, Bool.and_eq_true] at h; exact h.2
theorem three_parts {m s k : List UInt8} (h : okT m s k = true) : partsL (m ++ 47 :: (s ++ 47 :: k)) = [m, s, k] := by
  rw [partsL_head _ _ (name_47 (okT_m h)), partsL_head _ _ (name_47 (okT_s h)), partsL_one _ (name_47 (kind_name (okT_k h)))]
theorem start_parts (z : List UInt8) : partsL (startL ++ z) = uagvL :: v2L :: partsL z := by
  rw [show startL ++ z = uagvL ++ 47 :: (v2L ++ 47 :: z) from rfl, partsL_head _ _ (by decide), partsL_head _ _ (by decide)]
theorem print_parts {m s k : List UInt8} (h : okT m s k = true) : partsL (printL m s k) = [uagvL, v2L, m, s, k] := by
  rw [printL, start_parts, three_parts h]
theorem print_inj {m s k m' s' k' : List UInt8} (h : okT m s k = true) (h' : okT m' s' k' = true) (e : printL m s k = printL m' s' k') : m = m' ∧ s = s' ∧ k = k' := by
  have := congrArg partsL e
  rw [print_parts h, print_parts h'] at this
  simpa using this
theorem print_len {m s k : List UInt8} : (printL m s k).length = m.length + s.length + k.length + 10 := by
  simp [printL, startL]; omega
theorem kind_len {k : List UInt8} (h : kindB k = true) : k.length ≤ 14 := by
  rcases kind_cases h with rfl | rfl | rfl | rfl | rfl <;> decide
theorem print_plain {m s k : List UInt8} (h : okT m s k = true) : ∀ p ∈ [uagvL, v2L, m, s, k], plainP p := by
  intro p hp
  simp only [List.mem_cons, List.not_mem_nil, or_false] at hp
  rcases hp with rfl | rfl | rfl | rfl | rfl
  · exact ⟨by decide, by decide⟩
  · exact ⟨by decide, by decide⟩
  · exact name_plain (okT_m h)
  · exact name_plain (okT_s h)
  · exact name_plain (kind_name (okT_k h))

/-- The document's Parse. -/
def parseS (z : List UInt8) : Option (List UInt8 × List UInt8 × List UInt8) :=
  if (partsL z).length = 5 then
    (if printS ((partsL z).getD 2 []) ((partsL z).getD 3 []) ((partsL z).getD 4 []) = some z then some ((partsL z).getD 2 [], (partsL z).getD 3 [], (partsL z).getD 4 []) else none)
  else none
theorem printS_some {m s k z : List UInt8} : printS m s k = some z ↔ okT m s k = true ∧ printL m s k = z := by
  unfold printS
  by_cases h : okT m s k = true
  · rw [if_pos h]; simp [h]
  · rw [if_neg h]; simp [h]
theorem parse_iff {z m s k : List UInt8} : parseS z = some (m, s, k) ↔ printS m s k = some z := by
  constructor
  · intro h
    unfold parseS at h
    by_cases h5 : (partsL z).length = 5
    · rw [if_pos h5] at h
      by_cases hp : printS ((partsL z).getD 2 []) ((partsL z).getD 3 []) ((partsL z).getD 4 []) = some z
      · rw [if_pos hp] at h
        obtain ⟨rfl, rfl, rfl⟩ : (partsL z).getD 2 [] = m ∧ (partsL z).getD 3 [] = s ∧ (partsL z).getD 4 [] = k := by simpa using h
        exact hp
      · rw [if_neg hp] at h; cases h
    · rw [if_neg h5] at h; cases h
  · intro h
    obtain ⟨ho, rfl⟩ := printS_some.1 h
    unfold parseS
    rw [print_parts ho]
    simp only [List.getD_cons_succ, List.getD_cons_zero]
    rw [if_pos (by rfl), if_pos h]
theorem parse_print {m s k : List UInt8} (h : okT m s k = true) : parseS (printL m s k) = some (m, s, k) :=
  parse_iff.2 (printS_some.2 ⟨h, rfl⟩)
/-- What is behind the start, where a text begins so. -/
def trimL (z : List UInt8) : List UInt8 := if z.take 8 = startL then z.drop 8 else z
theorem trim_start (z : List UInt8) : trimL (startL ++ z) = z := by
  unfold trimL
  rw [if_pos (by rfl)]
  rfl
/-- The program's Parse. -/
def parseP (z : List UInt8) : Option (List UInt8 × List UInt8 × List UInt8) :=
  if (partsL (trimL z)).length ≤ 3 then
    (if printS ((partsL (trimL z)).getD 0 []) ((partsL (trimL z)).getD 1 []) ((partsL (trimL z)).getD 2 []) = some z then some ((partsL (trimL z)).getD 0 [], (partsL (trimL z)).getD 1 [], (partsL (trimL z)).getD 2 []) else none)
  else none
theorem parseP_iff {z m s k : List UInt8} : parseP z = some (m, s, k) ↔ printS m s k = some z := by
  constructor
  · intro h
    unfold parseP at h
    by_cases h5 : (partsL (trimL z)).length ≤ 3
    · rw [if_pos h5] at h
      by_cases hp : printS ((partsL (trimL z)).getD 0 []) ((partsL (trimL z)).getD 1 []) ((partsL (trimL z)).getD 2 []) = some z
      · rw [if_pos hp] at h
        obtain ⟨rfl, rfl, rfl⟩ : (partsL (trimL z)).getD 0 [] = m ∧ (partsL (trimL z)).getD 1 [] = s ∧ (partsL (trimL z)).getD 2 [] = k := by simpa using h
        exact hp
      · rw [if_neg hp] at h; cases h
    · rw [if_neg h5] at h; cases h
  · intro h
    obtain ⟨ho, rfl⟩ := printS_some.1 h
    unfold parseP
    rw [show trimL (printL m s k) = m ++ 47 :: (s ++ 47 :: k) from trim_start _, three_parts ho]
    rw [if_pos (by simp)]
    simp only [List.getD_cons_succ, List.getD_cons_zero]
    rw [if_pos h]
theorem parseP_eq (z : List UInt8) : parseP z = parseS z := by
  cases h : parseS z with
  | none =>
    cases h2 : parseP z with
    | none => rfl
    | some x =>
      obtain ⟨m, s, k⟩ := x
      rw [parse_iff.2 (parseP_iff.1 h2)] at h
      cases h
  | some x =>
    obtain ⟨m, s, k⟩ := x
    exact parseP_iff.2 (parse_iff.1 h)

/-- A raw text's byte in a name. -/
def fitB (c : UInt8) : UInt8 := [97, 98, 99, 120, 121, 122, 65, 66, 67, 88, 89, 90, 48, 49, 56, 57, 95, 46, 58, 45].getD (c.toNat % 20) 0
def fitL (s : List UInt8) : List UInt8 := 110 :: (s.take 15).map fitB
theorem fitB_of (c : UInt8) : ofB (fitB c) = true := by
  have h : c.toNat % 20 < 20 := Nat.mod_lt _ (by decide)
  have : ∀ k : Fin 20, ofB ([97, 98, 99, 120, 121, 122, 65, 66, 67, 88, 89, 90, 48, 49, 56, 57, 95, 46, 58, 45].getD k.val 0) = true := by decide
  exact this ⟨_, h⟩
theorem fit_name (s : List UInt8) : nameB (fitL s) = true := by
  unfold nameB
  rw [Bool.and_eq_true, decide_eq_true_eq, List.all_eq_true]
  refine ⟨⟨by unfold fitL; rw [List.length_cons]; omega, by unfold fitL; rw [List.length_cons, List.length_map, List.length_take]; omega⟩, ?_⟩
  unfold fitL
  intro c hc
  rcases List.mem_cons.1 hc with e | hc
  · rw [e]; rfl
  · obtain ⟨b, _, e⟩ := List.mem_map.1 hc
    rw [← e]
    exact fitB_of b
def kindL (k : Nat) : List UInt8 := [orderL, instL, stateL, connL, visL].getD k []
theorem kindL_ok {k : Nat} (h : k < 5) : kindB (kindL k) = true := by
  have : k = 0 ∨ k = 1 ∨ k = 2 ∨ k = 3 ∨ k = 4 := by omega
  rcases this with rfl | rfl | rfl | rfl | rfl <;> rfl
theorem fit_ok (m s : List UInt8) {k : Nat} (h : k < 5) : okT (fitL m) (fitL s) (kindL k) = true := by
  simp [okT, fit_name, kindL_ok h]
/-- With another byte in a place. -/
theorem name_set (n : List UInt8) (h : nameB n = true) (j : Nat) (hj : j < n.length) (c : UInt8) : nameB (n.set j c) = ofB c := by
  have hl := name_len h
  have ho := name_of h
  rw [Bool.eq_iff_iff]
  simp only [nameB, Bool.and_eq_true, decide_eq_true_eq, List.all_eq_true, List.length_set]
  constructor
  · rintro ⟨_, h2⟩
    exact h2 c (List.mem_set hj c)
  · intro hc
    refine ⟨hl, fun x hx => ?_⟩
    rcases List.mem_or_eq_of_mem_set hx with hm | rfl
    · exact ho x hm
    · exact hc
theorem name_long (n : List UInt8) (h : 1 ≤ n.length) : nameB (n ++ [97, 97, 97, 97, 97, 97, 97, 97, 97, 97, 97, 97, 97, 97, 97, 97]) = false := by
  simp only [nameB, Bool.and_eq_false_iff, decide_eq_false_iff_not]
  left
  rw [List.length_append, show [(97 : UInt8), 97, 97, 97, 97, 97, 97, 97, 97, 97, 97, 97, 97, 97, 97, 97].length = 16 from rfl]
  omega
end Go.Proofs.Ytnjcfnmdelpecaa.Tp
