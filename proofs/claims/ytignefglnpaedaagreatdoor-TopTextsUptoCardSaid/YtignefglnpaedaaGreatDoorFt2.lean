import Derived.Test.YtignefglnpaedaaGreatDoorFt
/- What Fit makes is right, and not long. -/
set_option linter.unusedVariables false
set_option linter.unusedSimpArgs false
namespace Go.Proofs.YtignefglnpaedaaGreatDoor.Js
open Go.RowKit Lex
open Quo (pickS pickS_nonneg pickS_lt IntsAt textR)

theorem names_of : ∀ (ns seen : List (List UInt8)), (∀ n ∈ ns, Quo.wholeB n = true) → ns.Nodup → (∀ n ∈ ns, n ∉ seen) → namesB seen ns = true
  | [], seen, _, _, _ => rfl
  | x :: r, seen, h1, h2, h3 => by
    obtain ⟨h4, h5⟩ := List.nodup_cons.1 h2
    rw [namesB, h1 x (List.mem_cons_self ..), names_of r (seen ++ [x]) (fun n hn => h1 n (List.mem_cons_of_mem _ hn)) h5 ?_]
    · simpa using h3 x (List.mem_cons_self ..)
    · intro n hn hc
      rcases List.mem_append.1 hc with h | h
      · exact h3 n (List.mem_cons_of_mem _ hn) h
      · rw [List.mem_singleton.1 h] at hn; exact h4 hn
theorem rightL_of {d : Nat} : ∀ {l : List J}, (∀ x ∈ l, rightJ d x = true) → rightL d l = true
  | [], _ => rfl
  | x :: r, h => by rw [rightL, h x (List.mem_cons_self ..), rightL_of (fun y hy => h y (List.mem_cons_of_mem _ hy))]; rfl
theorem whole_name (zs : List Int) : Quo.wholeB (Quo.flat (textR zs)) = true := Quo.wholeB_flat' (Quo.textR_vr zs)

theorem fit_bare {d : Nat} {k : Int} (hd : d ≤ 16) (h : k = 1 ∨ k = 2 ∨ k = 3 ∨ k = 6 ∨ k = 7) : rightJ d (.mk k 0 0 [] [] []) = true := by
  rw [rightJ]
  rcases h with rfl | rfl | rfl | rfl | rfl <;> simp [bareB, formB, namesB, rightL, hd]
theorem fit_right : ∀ (n d : Nat) (r : RT), d + n ≤ 16 → rightJ d (fitJ n r) = true
  | 0, d, .mk k m e t is, hd => by
    have h0 := pickS_nonneg (c := k) (n := 7) (by decide)
    have h1 := pickS_lt (c := k) (n := 7) (by decide)
    rw [fitJ]
    split
    · rw [rightJ]; simp [bareB, formB, rightL, Dec.fit_right]; omega
    · split
      · rw [rightJ]; simp [bareB, formB, rightL, whole_name]; omega
      · exact fit_bare (by omega) (by omega)
  | n + 1, d, .mk k m e t is, hd => by
    have h0 := pickS_nonneg (c := k) (n := 7) (by decide)
    have h1 := pickS_lt (c := k) (n := 7) (by decide)
    rw [fitJ]
    split
    · rw [rightJ]; simp [bareB, formB, rightL, Dec.fit_right]; omega
    · split
      · rw [rightJ]; simp [bareB, formB, rightL, whole_name]; omega
      · split
        · rename_i h
          have ih : ∀ y ∈ is.take 12, rightJ (d + 1) (fitJ n y) = true := fun y _ => fit_right n (d + 1) y (by omega)
          rcases h with h | h
          · rw [h, show decide ((6 : Int) = 7) = false from rfl, fitL_none, rightJ]
            have := rightL_of (fitL_all (fitJ n) false (fun x => rightJ (d + 1) x = true) (is.take 12) [] [] ih (by simp))
            rw [this]
            simp [bareB, formB]; omega
          · rw [h, rightJ]
            have := rightL_of (fitL_all (fitJ n) (decide ((7 : Int) = 7)) (fun x => rightJ (d + 1) x = true) (is.take 12) [] [] ih (by simp))
            rw [this]
            have h2 := fitL_names (fitJ n) (is.take 12) [] [] (by simp) rfl
            have h3 := fitL_namesP (fitJ n) (fun x => Quo.wholeB x = true) (fun y => whole_name _) true (is.take 12) [] [] (by simp)
            have h4 := names_of _ [] h3 h2.1 (by simp)
            simp only [decide_true] at *
            simp [bareB, formB, h4, h2.2]; omega
        · exact fit_bare (by omega) (by omega)

mutual
/-- How many raw values there are. -/
def rsz : RT → Nat
  | .mk _ _ _ _ is => 1 + rszL is
def rszL : List RT → Nat
  | [] => 0
  | x :: r => rsz x + rszL r
end
theorem rszL_take : ∀ (n : Nat) (l : List RT), rszL (l.take n) ≤ rszL l
  | 0, l => by simp [rszL]
  | n + 1, [] => by simp
  | n + 1, x :: r => by rw [List.take_succ_cons, rszL, rszL]; have := rszL_take n r; omega
theorem qr6 {r : Nat} (h : Quo.vr r) : (Quo.qr r).length ≤ 6 := by
  unfold Quo.qr
  have h4 := (Quo.enc_len r).2
  repeat' split
  all_goals first | (simp; done) | (simp [Quo.esc4] ; done) | omega
theorem bodyQ_len {rs : List Nat} (h : ∀ r ∈ rs, Quo.vr r) : (Quo.bodyQ rs).length ≤ 6 * rs.length := by
  unfold Quo.bodyQ
  induction rs with
  | nil => simp
  | cons r rs ih =>
    have h1 := qr6 (h r (by simp))
    have h2 := ih (fun r hr => h r (by simp [hr]))
    simp only [List.flatMap_cons, List.length_append, List.length_cons]
    omega
theorem quote_len (n : Nat) (hn : n ≤ 200) (zs : List Int) : (Quo.quoteL (Quo.flat (textR (zs.take n)))).length ≤ 6 * n + 2 := by
  have h := bodyQ_len (Quo.textR_vr (zs.take n))
  have h2 : (textR (zs.take n)).length ≤ n := by unfold Quo.textR; simp; omega
  unfold Quo.quoteL
  rw [Quo.qBody_flat' (Quo.textR_vr _)]
  simp
  omega
def sumP : List J → Nat
  | [] => 0
  | x :: r => (printJ x).length + 62 + sumP r
theorem sumP_app : ∀ a b : List J, sumP (a ++ b) = sumP a + sumP b
  | [], b => by simp [sumP]
  | x :: r, b => by rw [List.cons_append, sumP, sumP_app r b, sumP]; omega
theorem printL_len (o : Bool) : ∀ (is : List J) (f : Bool) (ns : List (List UInt8)), (∀ n ∈ ns, (Quo.quoteL n).length ≤ 60) → (printL o f ns is).length ≤ sumP is
  | [], f, ns, h => by rw [printL]; simp
  | x :: r, f, ns, h => by
    rw [printL, sumP]
    have h1 := printL_len o r false ns.tail (fun n hn => h n (List.mem_of_mem_tail hn))
    have h2 : (Quo.quoteL (ns.headD [])).length ≤ 60 := by
      cases ns with
      | nil => simp [Quo.quoteL, Quo.qBody]
      | cons y s => exact h y (List.mem_cons_self ..)
    generalize Quo.quoteL (ns.headD []) = q at *
    have h3 : (if o = true then q ++ [58] else []).length ≤ 61 := by split <;> simp <;> omega
    have h4 : (if f = true then ([] : List UInt8) else [44]).length ≤ 1 := by split <;> simp
    simp only [List.length_append]
    omega
def sumR (f : RT → J) : List RT → Nat
  | [] => 0
  | x :: r => (printJ (f x)).length + 62 + sumR f r
theorem fitL_sum (f : RT → J) (ob : Bool) : ∀ l ns is, sumP (fitL f ob l ns is).2 ≤ sumP is + sumR f l
  | [], ns, is => by simp [fitL, sumR]
  | y :: l, ns, is => by
    rw [fitL, sumR]
    split
    · have := fitL_sum f ob l ns is; omega
    · have := fitL_sum f ob l (if ob = true then ns ++ [nameR y] else ns) (is ++ [f y])
      rw [sumP_app, sumP, sumP] at this
      omega
theorem sumR_le (f : RT → J) (h : ∀ r, (printJ (f r)).length + 62 ≤ 200 * rsz r) : ∀ l, sumR f l ≤ 200 * rszL l
  | [] => by simp [sumR, rszL]
  | y :: l => by rw [sumR, rszL]; have := h y; have := sumR_le f h l; omega
theorem bare_len {k : Int} : (printJ (.mk k 0 0 [] [] [])).length ≤ 50 ∨ k = 4 ∨ k = 5 := by
  by_cases h : k = 4 ∨ k = 5
  · exact .inr h
  · left
    rw [printJ]
    repeat' split
    all_goals first | omega | (simp [nullL, falseL, trueL, printL])
theorem fit_len : ∀ (n : Nat) (r : RT), (printJ (fitJ n r)).length + 62 ≤ 200 * rsz r
  | 0, .mk k m e t is => by
    rw [fitJ, rsz]
    split
    · rw [printJ]; have := (Dec.print_len (Dec.fit_right m e)).1; simp; omega
    · split
      · rw [printJ]; have := quote_len 20 (by omega) t; simp; omega
      · rcases bare_len (k := 1 + pickS k 7) with h | h | h <;> omega
  | n + 1, .mk k m e t is => by
    rw [fitJ, rsz]
    split
    · rw [printJ]; have := (Dec.print_len (Dec.fit_right m e)).1; simp; omega
    · split
      · rw [printJ]; have := quote_len 20 (by omega) t; simp; omega
      · split
        · rename_i h
          have h1 := fun ob => fitL_sum (fitJ n) ob (is.take 12) [] []
          have h2 := sumR_le (fitJ n) (fit_len n) (is.take 12)
          have h3 := rszL_take 12 is
          have h4 : ∀ ob, ∀ x ∈ (fitL (fitJ n) ob (is.take 12) [] []).1, (Quo.quoteL x).length ≤ 60 := fun ob => fitL_namesP (fitJ n) (fun x => (Quo.quoteL x).length ≤ 60) (fun y => by have := quote_len 8 (by omega) y.txt; unfold nameR; omega) ob (is.take 12) [] [] (by simp)
          rcases h with h | h
          · rw [h, printJ]
            have := h1 (decide ((6 : Int) = 7))
            have h5 := printL_len false (fitL (fitJ n) (decide ((6 : Int) = 7)) (is.take 12) [] []).2 true [] (by simp)
            simp only [sumP] at this
            simp
            simp at this h5
            omega
          · rw [h, printJ]
            have := h1 (decide ((7 : Int) = 7))
            have h5 := printL_len true (fitL (fitJ n) (decide ((7 : Int) = 7)) (is.take 12) [] []).2 true (fitL (fitJ n) (decide ((7 : Int) = 7)) (is.take 12) [] []).1 (h4 _)
            simp only [sumP] at this
            simp
            simp at this h5
            omega
        · rcases bare_len (k := 1 + pickS k 7) with h | h | h <;> omega
end Go.Proofs.YtignefglnpaedaaGreatDoor.Js
