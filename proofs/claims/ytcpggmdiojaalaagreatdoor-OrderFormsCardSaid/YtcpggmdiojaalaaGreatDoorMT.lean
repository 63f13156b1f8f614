import Derived.Laws.BitsAllLaws
import Derived.Test.YtcpggmdiojaalaaGreatDoorChecked
import Derived.Test.YtcpggmdiojaalaaGreatDoorShelf
import Derived.WalkKit
import Derived.BigCall
import Derived.Lib.Hide
import Derived.Below
import Derived.ProofKit
import Derived.Deep.QuietTactic
import Derived.RegionTactic
import Derived.Laws.DeepStrings4
import Derived.Lib.IndexLaws
import Derived.Lib.CutLaws
import Derived.IntWalk
import Derived.BigQuiet
import Derived.Laws.IdiomStrings
import Derived.Deep.RegionHeld
/- Layer 7, plain: parts of texts, names, topics, filters. -/
set_option linter.unusedVariables false
set_option linter.unusedSimpArgs false
namespace Go.Proofs.YtcpggmdiojaalaaGreatDoor.Tp

/-- What stands between a text's slashes. -/
def partsL : List UInt8 → List (List UInt8)
  | [] => [[]]
  | c :: r => if c = 47 then [] :: partsL r else match partsL r with
    | p :: ps => (c :: p) :: ps
    | [] => [[c]]
theorem partsL_ne : ∀ l, partsL l ≠ []
  | [] => by simp [partsL]
  | c :: r => by
    rw [partsL]
    by_cases h : c = 47
    · rw [if_pos h]; simp
    · rw [if_neg h]; split <;> simp
theorem partsL_cons {l : List UInt8} : ∃ p ps, partsL l = p :: ps := by
  cases h : partsL l with
  | nil => exact absurd h (partsL_ne l)
  | cons p ps => exact ⟨p, ps, rfl⟩
theorem partsL_app : ∀ a b : List UInt8, partsL (a ++ 47 :: b) = partsL a ++ partsL b
  | [], b => by simp [partsL]
  | c :: a, b => by
    rw [List.cons_append, partsL, partsL, partsL_app a b]
    by_cases h : c = 47
    · rw [if_pos h, if_pos h]; rfl
    · rw [if_neg h, if_neg h]
      obtain ⟨p, ps, e⟩ := partsL_cons (l := a)
      rw [e]
      rfl
theorem partsL_one : ∀ a : List UInt8, 47 ∉ a → partsL a = [a]
  | [], _ => rfl
  | c :: a, h => by
    rw [partsL, if_neg (fun e => h (by simp [e])), partsL_one a (fun x => h (List.mem_cons_of_mem _ x))]
theorem partsL_head (a b : List UInt8) (h : 47 ∉ a) : partsL (a ++ 47 :: b) = a :: partsL b := by
  rw [partsL_app, partsL_one a h]; rfl
/-- A text has no slash, or a first one. -/
theorem slash_cases (l : List UInt8) : 47 ∉ l ∨ ∃ a b, l = a ++ 47 :: b ∧ 47 ∉ a := by
  by_cases h : 47 ∈ l
  · obtain ⟨a, b, e, hn⟩ := List.eq_append_cons_of_mem h
    exact .inr ⟨a, b, e, hn⟩
  · exact .inl h
/-- A text's parts, each with whether it is the last one. -/
def tagL : List (List UInt8) → List (List UInt8 × Bool)
  | [] => []
  | [p] => [(p, true)]
  | p :: q :: r => (p, false) :: tagL (q :: r)
theorem tagL_cons {p : List UInt8} {r : List (List UInt8)} (h : r ≠ []) : tagL (p :: r) = (p, false) :: tagL r := by
  cases r with
  | nil => exact absurd rfl h
  | cons q r => rfl
theorem tagL_len : ∀ l, (tagL l).length = l.length
  | [] => rfl
  | [p] => rfl
  | p :: q :: r => by rw [tagL]; simp [tagL_len (q :: r)]
theorem tagL_fst : ∀ l, (tagL l).map (·.1) = l
  | [] => rfl
  | [p] => rfl
  | p :: q :: r => by rw [tagL]; simp [tagL_fst (q :: r)]
/-- What is still to come of a text's parts, where 'more' says whether there are any. -/
def remS (rest : List UInt8) (more : Bool) : List (List UInt8) := if more then partsL rest else []
theorem remS_no (rest : List UInt8) : remS rest false = [] := rfl
theorem remS_yes (rest : List UInt8) : remS rest true = partsL rest := rfl

/-- A filter's part against what is left of a name's parts: it is told, or what is then left. -/
def mstep (n : List (List UInt8)) (x : List UInt8 × Bool) : Bool ⊕ List (List UInt8) :=
  if x.2 = true ∧ x.1 = [35] then .inl true else if n = [] then .inl false else if x.1 = [43] ∨ x.1 = n.headD [] then .inr n.tail else .inl false
def mrun : List (List UInt8 × Bool) → List (List UInt8) → Bool ⊕ List (List UInt8)
  | [], n => .inr n
  | x :: xs, n => match mstep n x with
    | .inl b => .inl b
    | .inr m => mrun xs m
def mfin : Bool ⊕ List (List UInt8) → Bool
  | .inl b => b
  | .inr n => n.isEmpty
theorem mrun_app : ∀ (xs ys : List (List UInt8 × Bool)) (n : List (List UInt8)), mrun (xs ++ ys) n = match mrun xs n with | .inl b => .inl b | .inr m => mrun ys m
  | [], ys, n => rfl
  | x :: xs, ys, n => by
    rw [List.cons_append]
    simp only [mrun]
    cases mstep n x with
    | inl b => rfl
    | inr m => exact mrun_app xs ys m
theorem mrun_one (x : List UInt8 × Bool) (n : List (List UInt8)) : mrun [x] n = mstep n x := by
  simp only [mrun]
  cases mstep n x <;> rfl
theorem mrun_snoc {n m : List (List UInt8)} {pre : List (List UInt8 × Bool)} (x : List UInt8 × Bool) (h : mrun pre n = .inr m) : mrun (pre ++ [x]) n = mstep m x := by
  rw [mrun_app, h]
  exact mrun_one x m
theorem mrun_stays {n : List (List UInt8)} {pre xs : List (List UInt8 × Bool)} {b : Bool} (h : mrun pre n = .inl b) (hp : pre <+: xs) : mrun xs n = .inl b := by
  obtain ⟨ys, rfl⟩ := hp
  rw [mrun_app, h]
/-- Whether a filter's parts match a name's. -/
def matchP : List (List UInt8) → List (List UInt8) → Bool
  | [], n => n.isEmpty
  | p :: f, n => if f = [] ∧ p = [35] then true else if n = [] then false else if p = [43] ∨ p = n.headD [] then matchP f n.tail else false
theorem mP0 (n : List (List UInt8)) : matchP [] n = n.isEmpty := rfl
theorem mP1 (p : List UInt8) (f n : List (List UInt8)) : matchP (p :: f) n = if f = [] ∧ p = [35] then true else if n = [] then false else if p = [43] ∨ p = n.headD [] then matchP f n.tail else false := rfl
theorem mP2 (p h : List UInt8) (f n : List (List UInt8)) : matchP (p :: f) (h :: n) = if f = [] ∧ p = [35] then true else if p = [43] ∨ p = h then matchP f n else false := by
  rw [mP1, if_neg (show ¬ (h :: n = []) by simp)]
  rfl
theorem mrun_match : ∀ f n : List (List UInt8), mfin (mrun (tagL f) n) = matchP f n
  | [], n => rfl
  | [p], n => by
    rw [tagL, mrun_one, mP1]
    unfold mstep
    by_cases h : p = [35]
    · rw [if_pos ⟨rfl, h⟩, if_pos ⟨rfl, h⟩]; rfl
    · rw [if_neg (fun x => h x.2), if_neg (fun x : _ ∧ _ => h x.2)]
      by_cases hn : n = []
      · rw [if_pos hn, if_pos hn]; rfl
      · rw [if_neg hn, if_neg hn]
        by_cases h2 : p = [43] ∨ p = n.headD []
        · rw [if_pos h2, if_pos h2]; rfl
        · rw [if_neg h2, if_neg h2]; rfl
  | p :: q :: r, n => by
    rw [tagL, mP1, if_neg (show ¬ (q :: r = [] ∧ p = [35]) by simp)]
    simp only [mrun]
    unfold mstep
    rw [if_neg (show ¬ (false = true ∧ p = [35]) by simp)]
    by_cases hn : n = []
    · rw [if_pos hn, if_pos hn]; rfl
    · rw [if_neg hn, if_neg hn]
      by_cases h2 : p = [43] ∨ p = n.headD []
      · rw [if_pos h2, if_pos h2]; exact mrun_match (q :: r) n.tail
      · rw [if_neg h2, if_neg h2]; rfl
/-- Whether a topic is one of a filter's. -/
def matchS (f n : List UInt8) : Bool := matchP (partsL f) (partsL n)

theorem matchP_self : ∀ f : List (List UInt8), matchP f f = true
  | [] => rfl
  | p :: f => by
    rw [mP2]
    by_cases h : f = [] ∧ p = [35]
    · rw [if_pos h]
    · rw [if_neg h, if_pos (.inr rfl)]; exact matchP_self f
/-- A part that is no sign. -/
def plainP (p : List UInt8) : Prop := p ≠ [43] ∧ p ≠ [35]
theorem matchP_plain : ∀ (f n : List (List UInt8)), (∀ p ∈ f, plainP p) → matchP f n = decide (f = n)
  | [], [], _ => rfl
  | [], h :: n, _ => by simp [mP0]
  | p :: f, [], hp => by
    have h1 := hp p (by simp)
    rw [mP1, if_neg (fun x => h1.2 x.2), if_pos rfl]
    simp
  | p :: f, h :: n, hp => by
    have h1 := hp p (by simp)
    rw [mP2, if_neg (fun x => h1.2 x.2)]
    by_cases e : p = h
    · rw [if_pos (.inr e), matchP_plain f n (fun q hq => hp q (by simp [hq])), e]; simp
    · rw [if_neg (fun x => x.elim h1.1 e)]; simp [e]
/-- A filter that ends in no hash matches as many parts as it has. -/
theorem matchP_len : ∀ (f n : List (List UInt8)), f.getLast? ≠ some [35] → f.length ≠ n.length → matchP f n = false
  | [], [], _, h => absurd rfl h
  | [], h :: n, _, _ => rfl
  | p :: f, n, hl, hn => by
    have hne : ¬ (f = [] ∧ p = [35]) := by
      rintro ⟨rfl, rfl⟩
      exact hl rfl
    cases n with
    | nil => rw [mP1, if_neg hne, if_pos rfl]
    | cons h n =>
      rw [mP2, if_neg hne]
      by_cases e : p = [43] ∨ p = h
      · rw [if_pos e]
        cases f with
        | nil =>
          cases n with
          | nil => simp at hn
          | cons => rfl
        | cons q f => exact matchP_len (q :: f) n (by simpa using hl) (by simpa using hn)
      · rw [if_neg e]
theorem matchP_hash : ∀ (f n : List (List UInt8)), matchP (f ++ [[35]]) (f ++ n) = true
  | [], n => by
    rw [List.nil_append, mP1, if_pos ⟨rfl, rfl⟩]
  | p :: f, n => by
    rw [List.cons_append, List.cons_append, mP2, if_neg (by simp), if_pos (.inr rfl)]
    exact matchP_hash f n
theorem matchP_plus : ∀ (f g : List (List UInt8)) (p : List UInt8), matchP (f ++ [43] :: g) (f ++ p :: g) = true
  | [], g, p => by
    rw [List.nil_append, List.nil_append, mP2, if_neg (by simp), if_pos (.inl rfl)]
    exact matchP_self g
  | q :: f, g, p => by
    rw [List.cons_append, List.cons_append, mP2, if_neg (by simp), if_pos (.inr rfl)]
    exact matchP_plus f g p

/-- A name's byte. -/
def ofB (c : UInt8) : Bool := decide (c.toNat = 95 ∨ c.toNat = 46 ∨ c.toNat = 58 ∨ c.toNat = 45 ∨ (97 ≤ c.toNat ∧ c.toNat ≤ 122) ∨ (65 ≤ c.toNat ∧ c.toNat ≤ 90) ∨ (48 ≤ c.toNat ∧ c.toNat ≤ 57))
def nameB (l : List UInt8) : Bool := decide (1 ≤ l.length ∧ l.length ≤ 16) && l.all ofB
def orderL : List UInt8 := [111, 114, 100, 101, 114]
def instL : List UInt8 := [105, 110, 115, 116, 97, 110, 116, 65, 99, 116, 105, 111, 110, 115]
def stateL : List UInt8 := [115, 116, 97, 116, 101]
def connL : List UInt8 := [99, 111, 110, 110, 101, 99, 116, 105, 111, 110]
def visL : List UInt8 := [118, 105, 115, 117, 97, 108, 105, 122, 97, 116, 105, 111, 110]
def kindB (k : List UInt8) : Bool := decide (k = orderL ∨ k = instL ∨ k = stateL ∨ k = connL ∨ k = visL)
def startL : List UInt8 := [117, 97, 103, 118, 47, 118, 50, 47]
def uagvL : List UInt8 := [117, 97, 103, 118]
def v2L : List UInt8 := [118, 50]
def okT (m s k : List UInt8) : Bool := nameB m && nameB s && kindB k
def printL (m s k : List UInt8) : List UInt8 := startL ++ (m ++ 47 :: (s ++ 47 :: k))
def printS (m s k : List UInt8) : Option (List UInt8) := if okT m s k = true then some (printL m s k) else none

theorem name_len {l : List UInt8} (h : nameB l = true) : 1 ≤ l.length ∧ l.length ≤ 16 := by
  simp only [nameB, Bool.and_eq_true, decide_eq_true_eq] at h; exact h.1
theorem name_of {l : List UInt8} (h : nameB l = true) : ∀ c ∈ l, ofB c = true := by
  simp only [nameB, Bool.and_eq_true, List.all_eq_true] at h; exact h.2
theorem name_no {l : List UInt8} (h : nameB l = true) {c : UInt8} (hc : ofB c = false) : c ∉ l := fun hm => by
  have := name_of h c hm; rw [hc] at this; cases this
theorem name_47 {l : List UInt8} (h : nameB l = true) : 47 ∉ l := name_no h rfl
theorem name_plain {l : List UInt8} (h : nameB l = true) : plainP l :=
  ⟨fun e => name_no h (c := 43) rfl (by rw [e]; simp), fun e => name_no h (c := 35) rfl (by rw [e]; simp)⟩
theorem kind_cases {k : List UInt8} (h : kindB k = true) : k = orderL ∨ k = instL ∨ k = stateL ∨ k = connL ∨ k = visL := by
  simpa [kindB] using h
theorem kind_name {k : List UInt8} (h : kindB k = true) : nameB k = true := by
  rcases kind_cases h with rfl | rfl | rfl | rfl | rfl <;> rfl
theorem okT_m {m s k : List UInt8} (h : okT m s k = true) : nameB m = true := by
  simp only [okT, Bool.and_eq_true] at h; exact h.1.1
theorem okT_s {m s k : List UInt8} (h : okT m s k = true) : nameB s = true := by
  simp only [okT, Bool.and_eq_true] at h; exact h.1.2
theorem okT_k {m s k : List UInt8} (h : okT m s k = true) : kindB k = true := by
  simp only [okT, Bool.and_eq_true] at h; exact h.2
theorem three_parts {m s k : List UInt8} (h : okT m s k = true) : partsL (m ++ 47 :: (s ++ 47 :: k)) = [m, s, k] := by
  rw [partsL_head _ _ (name_47 (okT_m h)), partsL_head _ _ (name_47 (okT_s h)), partsL_one _ (name_47 (kind_name (okT_k h)))]
theorem start_parts (z : List UInt8) : partsL (startL ++ z) = uagvL :: v2L :: partsL z := by
  rw [show startL ++ z = uagvL ++ 47 :: (v2L ++ 47 :: z) from rfl, partsL_head _ _ (by decide), partsL_head _ _ (by decide)]
theorem print_parts {m s k : List UInt8} (h : okT m s k = true) : partsL (printL m s k) = [uagvL, v2L, m, s, k] := by
  rw [printL, start_parts, three_parts h]
theorem print_inj {m s k m' s' k' : List UInt8} (h : okT m s k = true) (h' : okT m' s' k' = true) (e : printL m s k = printL m' s' k') : m = m' ∧ s = s' ∧ k = k' := by
  have := congrArg partsL e
  rw [print_parts h, print_parts h'] at this
  simpa using this
theorem print_len {m s k : List UInt8} : (printL m s k).length = m.length + s.length + k.length + 10 := by
  simp [printL, startL]; omega
theorem kind_len {k : List UInt8} (h : kindB k = true) : k.length ≤ 14 := by
  rcases kind_cases h with rfl | rfl | rfl | rfl | rfl <;> decide
theorem print_plain {m s k : List UInt8} (h : okT m s k = true) : ∀ p ∈ [uagvL, v2L, m, s, k], plainP p := by
  intro p hp
  simp only [List.mem_cons, List.not_mem_nil, or_false] at hp
  rcases hp with rfl | rfl | rfl | rfl | rfl
  · exact ⟨by decide, by decide⟩
  · exact ⟨by decide, by decide⟩
  · exact name_plain (okT_m h)
  · exact name_plain (okT_s h)
  · exact name_plain (kind_name (okT_k h))

/-- The document's Parse. -/
def parseS (z : List UInt8) : Option (List UInt8 × List UInt8 × List UInt8) :=
  if (partsL z).length = 5 then
    (if printS ((partsL z).getD 2 []) ((partsL z).getD 3 []) ((partsL z).getD 4 []) = some z then some ((partsL z).getD 2 [], (partsL z).getD 3 [], (partsL z).getD 4 []) else none)
  else none
theorem printS_some {m s k z : List UInt8} : printS m s k = some z ↔ okT m s k = true ∧ printL m s k = z := by
  unfold printS
  by_cases h : okT m s k = true
  · rw [if_pos h]; simp [h]
  · rw [if_neg h]; simp [h]
theorem parse_iff {z m s k : List UInt8} : parseS z = some (m, s, k) ↔ printS m s k = some z := by
  constructor
  · intro h
    unfold parseS at h
    by_cases h5 : (partsL z).length = 5
    · rw [if_pos h5] at h
      by_cases hp : printS ((partsL z).getD 2 []) ((partsL z).getD 3 []) ((partsL z).getD 4 []) = some z
      · rw [if_pos hp] at h
        obtain ⟨rfl, rfl, rfl⟩ : (partsL z).getD 2 [] = m ∧ (partsL z).getD 3 [] = s ∧ (partsL z).getD 4 [] = k := by simpa using h
        exact hp
      · rw [if_neg hp] at h; cases h
    · rw [if_neg h5] at h; cases h
  · intro h
    obtain ⟨ho, rfl⟩ := printS_some.1 h
    unfold parseS
    rw [print_parts ho]
    simp only [List.getD_cons_succ, List.getD_cons_zero]
    rw [if_pos (by rfl), if_pos h]
theorem parse_print {m s k : List UInt8} (h : okT m s k = true) : parseS (printL m s k) = some (m, s, k) :=
  parse_iff.2 (printS_some.2 ⟨h, rfl⟩)
/-- What is behind the start, where a text begins so. -/
def trimL (z : List UInt8) : List UInt8 := if z.take 8 = startL then z.drop 8 else z
theorem trim_start (z : List UInt8) : trimL (startL ++ z) = z := by
  unfold trimL
  rw [if_pos (by rfl)]
  rfl
/-- The program's Parse. -/
def parseP (z : List UInt8) : Option (List UInt8 × List UInt8 × List UInt8) :=
  if (partsL (trimL z)).length ≤ 3 then
    (if printS ((partsL (trimL z)).getD 0 []) ((partsL (trimL z)).getD 1 []) ((partsL (trimL z)).getD 2 []) = some z then some ((partsL (trimL z)).getD 0 [], (partsL (trimL z)).getD 1 [], (partsL (trimL z)).getD 2 []) else none)
  else none
theorem parseP_iff {z m s k : List UInt8} : parseP z = some (m, s, k) ↔ printS m s k = some z := by
  constructor
  · intro h
    unfold parseP at h
    by_cases h5 : (partsL (trimL z)).length ≤ 3
    · rw [if_pos h5] at h
      by_cases hp : printS ((partsL (trimL z)).getD 0 []) ((partsL (trimL z)).getD 1 []) ((partsL (trimL z)).getD 2 []) = some z
      · rw [if_pos hp] at h
        obtain ⟨rfl, rfl, rfl⟩ : (partsL (trimL z)).getD 0 [] = m ∧ (partsL (trimL z)).getD 1 [] = s ∧ (partsL (trimL z)).getD 2 [] = k := by simpa using h
        exact hp
      · rw [if_neg hp] at h; cases h
    · rw [if_neg h5] at h; cases h
  · intro h
    obtain ⟨ho, rfl⟩ := printS_some.1 h
    unfold parseP
    rw [show trimL (printL m s k) = m ++ 47 :: (s ++ 47 :: k) from trim_start _, three_parts ho]
    rw [if_pos (by simp)]
    simp only [List.getD_cons_succ, List.getD_cons_zero]
    rw [if_pos h]
theorem parseP_eq (z : List UInt8) : parseP z = parseS z := by
  cases h : parseS z with
  | none =>
    cases h2 : parseP z with
    | none => rfl
    | some x =>
      obtain ⟨m, s, k⟩ := x
      rw [parse_iff.2 (parseP_iff.1 h2)] at h
      cases h
  | some x =>
    obtain ⟨m, s, k⟩ := x
    exact parseP_iff.2 (parse_iff.1 h)

/-- A raw text's byte in a name. -/
def fitB (c : UInt8) : UInt8 := [97, 98, 99, 120, 121, 122, 65, 66, 67, 88, 89, 90, 48, 49, 56, 57, 95, 46, 58, 45].getD (c.toNat % 20) 0
def fitL (s : List UInt8) : List UInt8 := 110 :: (s.take 15).map fitB
theorem fitB_of (c : UInt8) : ofB (fitB c) = true := by
  have h : c.toNat % 20 < 20 := Nat.mod_lt _ (by decide)
  have : ∀ k : Fin 20, ofB ([97, 98, 99, 120, 121, 122, 65, 66, 67, 88, 89, 90, 48, 49, 56, 57, 95, 46, 58, 45].getD k.val 0) = true := by decide
  exact this ⟨_, h⟩
theorem fit_name (s : List UInt8) : nameB (fitL s) = true := by
  unfold nameB
  rw [Bool.and_eq_true, decide_eq_true_eq, List.all_eq_true]
  refine ⟨⟨by unfold fitL; rw [List.length_cons]; omega, by unfold fitL; rw [List.length_cons, List.length_map, List.length_take]; omega⟩, ?_⟩
  unfold fitL
  intro c hc
  rcases List.mem_cons.1 hc with e | hc
  · rw [e]; rfl
  · obtain ⟨b, _, e⟩ := List.mem_map.1 hc
    rw [← e]
    exact fitB_of b
def kindL (k : Nat) : List UInt8 := [orderL, instL, stateL, connL, visL].getD k []
theorem kindL_ok {k : Nat} (h : k < 5) : kindB (kindL k) = true := by
  have : k = 0 ∨ k = 1 ∨ k = 2 ∨ k = 3 ∨ k = 4 := by omega
  rcases this with rfl | rfl | rfl | rfl | rfl <;> rfl
theorem fit_ok (m s : List UInt8) {k : Nat} (h : k < 5) : okT (fitL m) (fitL s) (kindL k) = true := by
  simp [okT, fit_name, kindL_ok h]
/-- With another byte in a place. -/
theorem name_set (n : List UInt8) (h : nameB n = true) (j : Nat) (hj : j < n.length) (c : UInt8) : nameB (n.set j c) = ofB c := by
  have hl := name_len h
  have ho := name_of h
  rw [Bool.eq_iff_iff]
  simp only [nameB, Bool.and_eq_true, decide_eq_true_eq, List.all_eq_true, List.length_set]
  constructor
  · rintro ⟨_, h2⟩
    exact h2 c (List.mem_set hj c)
  · intro hc
    refine ⟨hl, fun x hx => ?_⟩
    rcases List.mem_or_eq_of_mem_set hx with hm | rfl
    · exact ho x hm
    · exact hc
theorem name_long (n : List UInt8) (h : 1 ≤ n.length) : nameB (n ++ [97, 97, 97, 97, 97, 97, 97, 97, 97, 97, 97, 97, 97, 97, 97, 97]) = false := by
  simp only [nameB, Bool.and_eq_false_iff, decide_eq_false_iff_not]
  left
  rw [List.length_append, show [(97 : UInt8), 97, 97, 97, 97, 97, 97, 97, 97, 97, 97, 97, 97, 97, 97, 97].length = 16 from rfl]
  omega
end Go.Proofs.YtcpggmdiojaalaaGreatDoor.Tp

/- Layer 7: what is said of strings and calls; the contracts of pick, ofName, Name, ofKind, Print. -/
set_option linter.unusedVariables false
set_option linter.unusedSimpArgs false
namespace Go.Proofs.YtcpggmdiojaalaaGreatDoor.Tp
open Go.RowKit

/-- It returned a value, and all that was there is as it was. -/
def Ret (v : Value) (w : World) (e : Ending) (w' : World) : Prop := e = .returned v ∧ Below w.heap.size w w'
theorem ret_int {k : IntKind} {a b : Int} (h : a = b) : Ending.returned (.int k a) = .returned (.int k b) := by rw [h]
theorem ret_bool {a b : Bool} (h : a = b) : Ending.returned (.bool a) = .returned (.bool b) := by rw [h]
theorem ret_str {a b : ByteArray} (h : a = b) : Ending.returned (.string a) = .returned (.string b) := by rw [h]
theorem bs_append (a b : List UInt8) : (⟨a.toArray⟩ ++ ⟨b.toArray⟩ : ByteArray) = ⟨(a ++ b).toArray⟩ := by
  apply ByteArray.ext; simp
theorem bs_size (F : List UInt8) : (⟨F.toArray⟩ : ByteArray).size = F.length := List.size_toArray
theorem bs_self (s : ByteArray) : s = ⟨s.data.toList.toArray⟩ := by apply ByteArray.ext; simp
theorem sz (s : ByteArray) : s.data.toList.length = s.size := by rw [Array.length_toList]; rfl
theorem bs_take (F : List UInt8) (p : Nat) : (⟨F.toArray⟩ : ByteArray).extract 0 p = ⟨(F.take p).toArray⟩ := by
  apply ByteArray.ext; simp
theorem ext_drop (s : ByteArray) (p : Nat) : (s.extract p s.size).data.toList = s.data.toList.drop p := by
  rw [ByteArray.data_extract, Array.toList_extract]
  simp only [List.extract]
  exact List.take_of_length_le (by rw [List.length_drop, Array.length_toList]; exact Nat.le_refl _)
theorem bs_drop (F : List UInt8) (p : Nat) : (⟨F.toArray⟩ : ByteArray).extract p F.length = ⟨(F.drop p).toArray⟩ := by
  rw [bs_self (ByteArray.extract _ _ _)]
  have := ext_drop ⟨F.toArray⟩ p
  rw [bs_size] at this
  rw [this]
theorem tl_eq (a : List UInt8) : (⟨a.toArray⟩ : ByteArray).toList = a := by
  rw [ByteArray.toList_eq]
theorem bs_eq (a b : List UInt8) : ((⟨a.toArray⟩ : ByteArray) = ⟨b.toArray⟩) ↔ a = b := by
  constructor
  · intro h
    have := congrArg (fun x => x.data.toList) h
    simpa using this
  · rintro rfl
    rfl
theorem str_ne {a b : List UInt8} (h : a ≠ b) : ((⟨a.toArray⟩ : ByteArray).toList == (⟨b.toArray⟩ : ByteArray).toList) = false := by
  rw [tl_eq, tl_eq]
  simpa using h
theorem below2 {w w1 w2 : World} (h1 : Below w.heap.size w w1) (h2 : Below w1.heap.size w1 w2) : Below w.heap.size w w2 := h1.trans (h2.mono h1.size)

def pickS (c n : Int) : Int := (if c < 0 then -(c + 1) else c) % n
theorem pickS_nonneg {c n : Int} (h : 0 < n) : 0 ≤ pickS c n := Int.emod_nonneg _ (by omega)
theorem pickS_lt {c n : Int} (h : 0 < n) : pickS c n < n := Int.emod_lt_of_pos _ h
theorem beq_no {n m : Nat} (h : n ≠ m) : ((n : Int) == (m : Int)) = false := by
  simp; omega
set_option maxHeartbeats 1000000 in
theorem ofName_any (c : UInt8) (w : World) : Calls Tryz.prog 90 #[.int .u8 c.toNat] w (fun e w' => e = .returned (.bool (ofB c)) ∧ w = w') := by
  unfold ofB
  generalize c.toNat = n
  by_cases h : n = 95 ∨ n = 46 ∨ n = 58 ∨ n = 45
  · rcases h with rfl | rfl | rfl | rfl
    all_goals
      go_enter Tryz.func90, Tryz.ntmps90
      go_wp2
      go_ret
      exact ⟨rfl, rfl⟩
  · have h1 := beq_no (n := n) (m := 95) (by omega)
    have h2 := beq_no (n := n) (m := 46) (by omega)
    have h3 := beq_no (n := n) (m := 58) (by omega)
    have h4 := beq_no (n := n) (m := 45) (by omega)
    simp only [Int.cast_ofNat_Int] at h1 h2 h3 h4
    have HN := Lib.hid h
    clear h
    go_enter Tryz.func90, Tryz.ntmps90
    go_wp2
    all_goals go_ret
    all_goals exact ⟨ret_bool (by have := HN.out; rw [Bool.eq_iff_iff]; simp; try omega), rfl⟩

theorem run_byte (s : ByteArray) (k : Nat) (h : k < s.size) (c : Nat) (hc : s[k].toNat = c) (u : World) : (Instr.index 9 (.string s) (.int .i64 (k : Int))).run Tryz.prog u = .ok (.int .u8 c) u := by
  rw [run_index_string _ _ _ _ _ Tryz.underlying9]
  have e1 : ((k : Int)).toNat = k := Int.toNat_natCast k
  simp [h, hc]
theorem take_at {s : ByteArray} {k : Nat} (h : k < s.size) : s.data.toList.take (k + 1) = s.data.toList.take k ++ [s[k]] := by
  rw [List.take_add_one, List.getElem?_eq_getElem (by rw [sz]; exact h)]; rfl
theorem all_snoc (l : List UInt8) (c : UInt8) : (l ++ [c]).all ofB = (l.all ofB && ofB c) := by simp

set_option maxHeartbeats 1000000 in
theorem Name_any (s : ByteArray) (w : World) (hs : s.size ≤ 9223372036854775000) : Calls Tryz.prog 53 #[.string s] w (fun e w' => e = .returned (.bool (nameB s.data.toList)) ∧ w = w') := by
  unfold nameB
  rw [sz]
  obtain ⟨B, HB⟩ : ∃ B, Hid (s.data.toList.all ofB = B) := ⟨_, rfl⟩
  rw [HB.out]
  by_cases h1 : 1 ≤ s.size
  · by_cases h2 : s.size ≤ 16
    · rw [show decide (1 ≤ s.size ∧ s.size ≤ 16) = true by simp [h1, h2], Bool.true_and]
      go_enter Tryz.func53, Tryz.ntmps53
      go_wp2
      go_loop [14] (fun i => ∃ k : Nat, k ≤ s.size ∧ i = .int .i64 k ∧ Hid ((s.data.toList.take k).all ofB = true)) (fun i => s.size - (intOf i).toNat)
      case atStart => exact ⟨0, Nat.zero_le _, rfl, rfl⟩
      case round =>
        obtain ⟨k, hk, rfl, HK⟩ := hrel
        by_cases hlt : k < s.size
        · have hx : ∀ u : World, (Instr.index 9 (.string s) (.int .i64 k)).run Tryz.prog u = .ok (.int .u8 s[k].toNat) u := run_byte s k hlt s[k].toNat rfl
          have HD := Lib.hid (take_at hlt)
          have HM : Hid (s[k] ∈ s.data.toList) := by
            show s[k] ∈ s.data.toList
            exact Array.mem_toList_iff.2 (Array.getElem_mem hlt)
          generalize hc : s[k] = c at *
          clear hc
          have C := Lib.hid (ofName_any c)
          cases hp : ofB c with
          | true =>
            rw [hp] at C
            have HP := Lib.hid hp
            clear hp
            go_wp2_with (go_at_call 90; refine (C.out _).mono ?_; rintro e w' ⟨rfl, rfl⟩)
            go_round
            case rel => exact ⟨k + 1, by omega, by go_num, by show _ = _; rw [HD.out, all_snoc, HK.out, HP.out]; rfl⟩
            case measure => simp [intOf]; omega
          | false =>
            rw [hp] at C
            have HA : Hid (s.data.toList.all ofB = false) := by
              show _ = _
              rw [Bool.eq_false_iff]
              intro h
              have := List.all_eq_true.1 h c HM.out
              rw [hp] at this
              cases this
            clear hp
            go_wp2_with (go_at_call 90; refine (C.out _).mono ?_; rintro e w' ⟨rfl, rfl⟩)
            go_ret
            exact ⟨ret_bool (HA.out.symm.trans HB.out), rfl⟩
        · have HE : Hid (s.data.toList.all ofB = true) := by
            show _ = _
            have := HK.out
            rwa [List.take_of_length_le (by rw [sz]; omega)] at this
          go_wp2
          go_ret
          exact ⟨ret_bool (HE.out.symm.trans HB.out), rfl⟩
    · rw [show decide (1 ≤ s.size ∧ s.size ≤ 16) = false by simp; omega, Bool.false_and]
      go_enter Tryz.func53, Tryz.ntmps53
      go_wp2
      go_ret
      exact ⟨rfl, rfl⟩
  · rw [show decide (1 ≤ s.size ∧ s.size ≤ 16) = false by simp; omega, Bool.false_and]
    go_enter Tryz.func53, Tryz.ntmps53
    go_wp2
    go_ret
    exact ⟨rfl, rfl⟩
theorem Name_l (l : List UInt8) (w : World) (hs : l.length ≤ 9223372036854775000) : Calls Tryz.prog 53 #[.string ⟨l.toArray⟩] w (fun e w' => e = .returned (.bool (nameB l)) ∧ w = w') :=
  Name_any ⟨l.toArray⟩ w (by rw [bs_size]; exact hs)

theorem kd_no {k : List UInt8} (L : List UInt8) (h : k ≠ L) : ((⟨k.toArray⟩ : ByteArray).toList == L) = false := by
  rw [tl_eq]; simpa using h
theorem kd_yes {k : List UInt8} (L : List UInt8) (h : k = L) : ((⟨k.toArray⟩ : ByteArray).toList == L) = true := by
  rw [tl_eq]; simpa using h
theorem kindB_yes {k : List UInt8} (h : k = orderL ∨ k = instL ∨ k = stateL ∨ k = connL ∨ k = visL) : kindB k = true := by
  simpa [kindB] using h
end Go.Proofs.YtcpggmdiojaalaaGreatDoor.Tp

/- Layer 7: the contracts of Print, and of the library's Cut at a slash, and TrimPrefix. -/
set_option linter.unusedVariables false
set_option linter.unusedSimpArgs false
namespace Go.Proofs.YtcpggmdiojaalaaGreatDoor.Tp
open Go.RowKit

/-- What Print answers. -/
def printV : Option (List UInt8) → Value
  | some z => .tuple #[.string ⟨z.toArray⟩, .int .i64 0]
  | none => .tuple #[.string ⟨#[]⟩, .int .i64 70]
theorem printS_ok {m s k : List UInt8} (h1 : nameB m = true) (h2 : nameB s = true) (h3 : kindB k = true) : printS m s k = some (printL m s k) := by
  unfold printS okT
  rw [h1, h2, h3]; rfl
theorem printS_m {m s k : List UInt8} (h1 : nameB m = false) : printS m s k = none := by
  unfold printS okT
  rw [h1]; rfl
theorem printS_s {m s k : List UInt8} (h1 : nameB s = false) : printS m s k = none := by
  unfold printS okT
  rw [h1, Bool.and_false]; rfl
theorem printS_k {m s k : List UInt8} (h1 : kindB k = false) : printS m s k = none := by
  unfold printS okT
  rw [h1, Bool.and_false]; rfl
theorem print_bytes (m s k : List UInt8) : (⟨#[117, 97, 103, 118, 47, 118, 50, 47]⟩ : ByteArray) ++ ⟨m.toArray⟩ ++ ⟨#[47]⟩ ++ ⟨s.toArray⟩ ++ ⟨#[47]⟩ ++ ⟨k.toArray⟩ = ⟨(printL m s k).toArray⟩ := by
  apply ByteArray.ext
  simp [printL, startL]
def reachN : Nat := 140737488355328

/-- What Cut tells of a text at its first slash. -/
def cutS (l : List UInt8) : List UInt8 × List UInt8 × Bool := if 47 ∈ l then (l.takeWhile (· ≠ 47), (l.dropWhile (· ≠ 47)).drop 1, true) else (l, [], false)
theorem cutS_no {l : List UInt8} (h : 47 ∉ l) : cutS l = (l, [], false) := if_neg h
theorem cutS_yes {a b : List UInt8} (h : 47 ∉ a) : cutS (a ++ 47 :: b) = (a, b, true) := by
  have h1 : (a ++ 47 :: b).takeWhile (· ≠ 47) = a := by
    rw [List.takeWhile_append_of_pos (by intro x hx; simp; rintro rfl; exact h hx)]
    simp
  have h2 : (a ++ 47 :: b).dropWhile (· ≠ 47) = 47 :: b := by
    rw [List.dropWhile_append_of_pos (by intro x hx; simp; rintro rfl; exact h hx)]
    simp
  unfold cutS
  rw [if_pos (by simp), h1, h2]
  rfl
theorem index_no {l : List UInt8} (h : 47 ∉ l) : Lib.indexByte l 47 = -1 := by
  have h0 := Lib.indexByte_ge l 47
  by_cases h1 : Lib.indexByte l 47 = -1
  · exact h1
  · obtain ⟨o, ho⟩ := Int.eq_ofNat_of_zero_le (show 0 ≤ Lib.indexByte l 47 by omega)
    exact absurd (List.mem_of_getElem? (Lib.indexByte_some ho).1) h
theorem index_yes {a b : List UInt8} (h : 47 ∉ a) : Lib.indexByte (a ++ 47 :: b) 47 = (a.length : Int) := by
  have h0 := Lib.indexByte_ge (a ++ 47 :: b) 47
  by_cases h1 : Lib.indexByte (a ++ 47 :: b) 47 = -1
  · exact absurd (by simp) (Lib.indexByte_none h1 a.length)
  · obtain ⟨o, ho⟩ := Int.eq_ofNat_of_zero_le (show 0 ≤ Lib.indexByte (a ++ 47 :: b) 47 by omega)
    obtain ⟨e1, e2⟩ := Lib.indexByte_some ho
    rw [ho]
    by_cases hlt : o < a.length
    · rw [List.getElem?_append_left hlt] at e1
      exact absurd (List.mem_of_getElem? e1) h
    · by_cases hgt : a.length < o
      · exact absurd (by simp) (e2 a.length hgt)
      · show ((o : Nat) : Int) = _
        omega

theorem index_one : Lib.indexByte (⟨#[47]⟩ : ByteArray).data.toList 47 = 0 := by decide +kernel
/-- What Cut answers. -/
def cutV (x : List UInt8 × List UInt8 × Bool) : Value := .tuple #[.string ⟨x.1.toArray⟩, .string ⟨x.2.1.toArray⟩, .bool x.2.2]
/-- It returned a value, and at most the count of draws is another one. -/
def RetD (v : Value) (w : World) (e : Ending) (w' : World) : Prop := e = .returned v ∧ ∃ n, w' = w.drewN n
theorem trim_eq (z : List UInt8) : Lib.trimPrefix z [117, 97, 103, 118, 47, 118, 50, 47] = trimL z := by
  unfold Lib.trimPrefix trimL Lib.hasPrefix
  show (if startL.isPrefixOf z = true then z.drop 8 else z) = _
  by_cases h : z.take 8 = startL
  · rw [if_pos h, if_pos (List.isPrefixOf_iff_prefix.2 (List.prefix_iff_eq_take.2 h.symm))]
  · rw [if_neg h, if_neg (fun x => h (show z.take startL.length = startL from (List.prefix_iff_eq_take.1 (List.isPrefixOf_iff_prefix.1 x)).symm))]
theorem Trim_any (z : List UInt8) (w : World) : Calls Tryz.prog 248 #[.string ⟨z.toArray⟩, .string ⟨#[117, 97, 103, 118, 47, 118, 50, 47]⟩] w (fun e w' => e = .returned (.string ⟨(trimL z).toArray⟩) ∧ w = w') := by
  refine (Tryz.strings_TrimPrefix _ _ w).mono ?_
  rintro e w' ⟨rfl, rfl⟩
  exact ⟨ret_str (by rw [← trim_eq]), rfl⟩
end Go.Proofs.YtcpggmdiojaalaaGreatDoor.Tp

/- Layer 7: the contracts of Fit and Topic; awake. -/
set_option linter.unusedVariables false
set_option linter.unusedSimpArgs false
namespace Go.Proofs.YtcpggmdiojaalaaGreatDoor.Tp
open Go.RowKit

/-- A block that holds bytes, and may be written. -/
structure RowOf (w : World) (b : Nat) (L : List UInt8) : Prop where
  cell : ∀ j (h : j < L.length), w.cell? ⟨b, j, none⟩ = some (.int .u8 (L[j].toNat : Int))
  fro : ∀ j, j < L.length → w.frozen? ⟨b, j, none⟩ = false
theorem heap_new (w : World) (o : Obj) : (w.alloc o).heap[w.heap.size]? = some o := by
  show (w.heap.push o)[w.heap.size]? = _
  simp
theorem row_laid (u : World) (L : List UInt8) : ∃ cap W, (convert 9 62 (.string ⟨L.toArray⟩)).run Tryz.prog u = .ok (.slice (some ⟨u.heap.size, 0, none⟩) L.length cap) W ∧
    RowOf W u.heap.size L ∧ Below u.heap.size u W := by
  have hr := run_bytes_of_string (P := Tryz.prog) u 9 62 5 ⟨L.toArray⟩ Tryz.underlying9 Tryz.underlying62 Tryz.underlying5
  rw [bs_size] at hr
  refine ⟨_, _, hr, ⟨fun j hj => ?_, fun j hj => ?_⟩, ((Below.refl _ u).drew).alloc (Nat.le_refl _) _⟩
  · have hh := heap_new u.drew (.cells (bytesRow ⟨L.toArray⟩ (grownCap u L.length 0 5)) 5 ((bytesRow ⟨L.toArray⟩ (grownCap u L.length 0 5)).size, (bytesRow ⟨L.toArray⟩ (grownCap u L.length 0 5)).size + 1))
    rw [show u.drew.heap.size = u.heap.size from rfl] at hh
    unfold World.cell?
    rw [hh]
    show (if _ then _ else _) = _
    rw [if_neg (by simp)]
    unfold bytesRow
    rw [Array.getElem?_append_left (by simpa using hj)]
    simp [hj]
  · have hh := heap_new u.drew (.cells (bytesRow ⟨L.toArray⟩ (grownCap u L.length 0 5)) 5 ((bytesRow ⟨L.toArray⟩ (grownCap u L.length 0 5)).size, (bytesRow ⟨L.toArray⟩ (grownCap u L.length 0 5)).size + 1))
    rw [show u.drew.heap.size = u.heap.size from rfl] at hh
    have hsz : L.length ≤ (bytesRow ⟨L.toArray⟩ (grownCap u L.length 0 5)).size := by
      unfold bytesRow
      simp
    unfold World.frozen?
    rw [hh]
    simp
    omega
theorem RowOf.set {w : World} {b k : Nat} {L : List UInt8} {y : UInt8} (h : RowOf w b L) (hk : k < L.length) : RowOf (w.setCell ⟨b, k, none⟩ (.int .u8 (y.toNat : Int))) b (L.set k y) := by
  refine ⟨fun j hj => ?_, fun j hj => ?_⟩
  · rw [List.length_set] at hj
    by_cases hjk : k = j
    · subst hjk
      rw [World.cell?_setCell_same _ _ _ (h.cell k hk)]
      simp
    · rw [World.cell?_setCell_other _ _ _ _ (by intro e; cases e; exact hjk rfl), h.cell j hj]
      simp [hjk]
  · rw [List.length_set] at hj
    rw [World.frozen?_setCell]
    exact h.fro j hj
theorem RowOf.back {w : World} {b cap : Nat} {L : List UInt8} (h : RowOf w b L) : (convert 62 9 (.slice (some ⟨b, 0, none⟩) L.length cap)).run Tryz.prog w = .ok (.string ⟨L.toArray⟩) w := by
  refine run_convert_bytes_back (P := Tryz.prog) w 62 9 5 ⟨b, 0, none⟩ cap L Tryz.underlying62 Tryz.underlying5 Tryz.underlying9 (fun j hj => ?_)
  have := h.cell j hj
  rwa [show (⟨b, 0, none⟩ : Addr).add j = ⟨b, j, none⟩ by simp [Addr.add]; omega]


/-- A raw text's bytes, the first k of which are fitted. -/
def fitK (l : List UInt8) (k : Nat) : List UInt8 := 110 :: ((l.take k).map fitB ++ l.drop k)
theorem fitK_len (l : List UInt8) (k : Nat) : (fitK l k).length = l.length + 1 := by
  simp [fitK]; omega
theorem fitK_zero (l : List UInt8) : fitK l 0 = 110 :: l := rfl
theorem fitK_all (l : List UInt8) : fitK l l.length = 110 :: l.map fitB := by simp [fitK]
theorem fitK_at (l : List UInt8) (k : Nat) (h : k < l.length) (h2 : k + 1 < (fitK l k).length) : (fitK l k)[k + 1] = l[k] := by
  simp only [fitK, List.getElem_cons_succ]
  rw [List.getElem_append_right (by simp; omega)]
  simp only [List.length_map, List.length_take, List.getElem_drop]
  congr 1
  omega
theorem fitK_set (l : List UInt8) (k : Nat) (h : k < l.length) : (fitK l k).set (k + 1) (fitB l[k]) = fitK l (k + 1) := by
  simp only [fitK, List.set_cons_succ]
  congr 1
  have e1 : l.take (k + 1) = l.take k ++ [l[k]] := by
    rw [List.take_add_one, List.getElem?_eq_getElem h]; rfl
  have e2 : ((l.take k).map fitB).length = k := by simp [Nat.min_eq_left (Nat.le_of_lt h)]
  rw [e1, List.map_append, List.append_assoc, List.drop_eq_getElem_cons h, List.set_append_right _ _ (by omega), e2, Nat.sub_self]
  rfl
theorem run_pickB (c : UInt8) (u : World) : (Instr.index 9 (.string ⟨#[97, 98, 99, 120, 121, 122, 65, 66, 67, 88, 89, 90, 48, 49, 56, 57, 95, 46, 58, 45]⟩) (.int .i64 ((c.toNat : Int) % 20))).run Tryz.prog u = .ok (.int .u8 (fitB c).toNat) u := by
  unfold fitB
  rw [show ((c.toNat : Int) % 20) = ((c.toNat % 20 : Nat) : Int) by omega]
  have hm : c.toNat % 20 < 20 := Nat.mod_lt _ (by decide)
  generalize c.toNat % 20 = m at *
  rw [run_index_string _ _ _ _ _ Tryz.underlying9]
  have e1 : ((m : Int)).toNat = m := Int.toNat_natCast m
  have : m = 0 ∨ m = 1 ∨ m = 2 ∨ m = 3 ∨ m = 4 ∨ m = 5 ∨ m = 6 ∨ m = 7 ∨ m = 8 ∨ m = 9 ∨ m = 10 ∨ m = 11 ∨ m = 12 ∨ m = 13 ∨ m = 14 ∨ m = 15 ∨ m = 16 ∨ m = 17 ∨ m = 18 ∨ m = 19 := by omega
  rcases this with rfl | rfl | rfl | rfl | rfl | rfl | rfl | rfl | rfl | rfl | rfl | rfl | rfl | rfl | rfl | rfl | rfl | rfl | rfl | rfl <;> rfl

set_option maxHeartbeats 2000000 in
set_option maxRecDepth 100000 in
theorem Fit_any (L : List UInt8) (w : World) (hs : L.length ≤ reachN) : Calls Tryz.prog 28 #[.string ⟨L.toArray⟩] w (Ret (.string ⟨(fitL L).toArray⟩) w) := by
  unfold reachN at hs
  obtain ⟨l, hl⟩ : ∃ l, L.take 15 = l := ⟨_, rfl⟩
  obtain ⟨n, hn⟩ : ∃ n, l.length = n := ⟨_, rfl⟩
  have hz : (⟨L.toArray⟩ : ByteArray).size = L.length := bs_size L
  have HT : Hid ((⟨L.toArray⟩ : ByteArray).extract 0 n = ⟨l.toArray⟩) := by
    show _ = _
    rw [bs_take, ← hl]
    congr 2
    have : n = min 15 L.length := by rw [← hn, ← hl, List.length_take]
    by_cases h : L.length ≤ 15
    · rw [List.take_of_length_le (by omega), List.take_of_length_le h]
    · rw [show n = 15 by omega]
  have hn15 : n = min 15 L.length := by rw [← hn, ← hl, List.length_take]
  have HF : Hid (fitL L = fitK l n) := by
    show _ = _
    unfold fitL
    rw [hl, ← hn, fitK_all]
  have HA : Hid ((⟨#[110]⟩ : ByteArray) ++ ⟨l.toArray⟩ = ⟨(fitK l 0).toArray⟩) := bs_append [110] l
  have hs1 : (⟨#[110]⟩ : ByteArray).size = 1 := rfl
  have hsl : (⟨l.toArray⟩ : ByteArray).size = n := by rw [bs_size, hn]
  have RL := Lib.hid (fun u => row_laid u (fitK l 0))
  rw [fitK_len, hn] at RL
  rw [HF.out]
  have hN : Hid (l.length = n) := hn
  clear HF hl hn
  have HM : Hid (min ((L.length : Nat) : Int) 15 = (n : Int)) := by show _ = _; omega
  have hn2 : n ≤ 15 := by omega
  clear hn15
  generalize L.length = q at *
  generalize (⟨L.toArray⟩ : ByteArray) = s at *
  generalize (⟨l.toArray⟩ : ByteArray) = sl at *
  go_enter Tryz.func28, Tryz.ntmps28
  go_wp2_with fail
  rw [HM.out, Int.toNat_natCast, HT.out, HA.out]
  obtain ⟨cap, W, hcv, hrow, hbw⟩ := RL.out w
  rw [hcv]
  have HR : Hid (RowOf W w.heap.size (fitK l 0)) := hrow
  have HB : Hid (Below w.heap.size w W) := hbw
  clear hcv RL hrow hbw
  generalize hE : w.heap.size = b at *
  have HE := Lib.hid hE
  clear hE
  go_wp2_with fail
  go_loopw [4] (fun i wr => ∃ k : Nat, k ≤ n ∧ i = .int .i64 ((k : Int) + 1) ∧ Hid (RowOf wr b (fitK l k)) ∧ Hid (Below b w wr)) (fun i _ => n + 1 - (intOf i).toNat)
  case atStart => exact ⟨0, by omega, rfl, HR, HB⟩
  case round =>
    obtain ⟨k, hk, rfl, HRk, HBk⟩ := hrel
    by_cases hlt : k < n
    · have hkl : k < l.length := by rw [hN.out]; exact hlt
      have hk2 : k + 1 < (fitK l k).length := by rw [fitK_len]; omega
      have hc := HRk.out.cell (k + 1) hk2
      have hf := HRk.out.fro (k + 1) hk2
      rw [fitK_at l k hkl] at hc
      have HS := Lib.hid (fitK_set l k hkl)
      have HRS : Hid (RowOf (wr.setCell ⟨b, k + 1, none⟩ (.int .u8 ((fitB l[k]).toNat : Int))) b (fitK l (k + 1))) := by
        have := HRk.out.set (y := fitB l[k]) hk2
        rwa [HS.out] at this
      have PB := fun u => run_pickB l[k] u
      generalize fitB l[k] = y at *
      have hm : l[k].toNat ≤ 255 := by have := l[k].toNat_lt; omega
      generalize l[k].toNat = m at *
      clear hkl hk2 HS HRk
      go_wp2_with fail
      go_roundw
      case rel => exact ⟨k + 1, by omega, by go_num, HRS, HBk.out.setCell (p := ⟨b, k + 1, none⟩) (Nat.le_refl _) _⟩
      case measure => simp [intOf]; omega
    · obtain rfl : k = n := by omega
      have hback := HRk.out.back (cap := cap)
      rw [fitK_len, hN.out] at hback
      go_wp2_with fail
      go_ret
      exact ⟨rfl, by rw [HE.out]; exact HBk.out⟩

theorem bcell {W w1 : World} (hb : Below W.heap.size W w1) : (∀ b o, b < W.heap.size → w1.cell? ⟨b, o, none⟩ = W.cell? ⟨b, o, none⟩) ∧ (∀ b o, b < W.heap.size → w1.frozen? ⟨b, o, none⟩ = W.frozen? ⟨b, o, none⟩) :=
  ⟨fun b o h => hb.cell (p := ⟨b, o, none⟩) h, fun b o h => hb.frozen (p := ⟨b, o, none⟩) h⟩
end Go.Proofs.YtcpggmdiojaalaaGreatDoor.Tp
