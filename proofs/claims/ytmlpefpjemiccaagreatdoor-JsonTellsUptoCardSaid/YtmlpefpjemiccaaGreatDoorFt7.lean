import Derived.Test.YtmlpefpjemiccaaGreatDoorLDeep
import Derived.Test.YtmlpefpjemiccaaGreatDoorQuoB
/- Raw values: what Fit makes of them, and how they lie in memory. -/
set_option linter.unusedVariables false
set_option linter.unusedSimpArgs false
namespace Go.Proofs.YtmlpefpjemiccaaGreatDoor.Js
open Go.RowKit Lex
open Quo (pickS pickS_nonneg pickS_lt IntsAt textR)

/-- A raw value. -/
inductive RT where
  | mk (k m e : Int) (t : List Int) (is : List RT)
def rt0 : RT := .mk 0 0 0 [] []
def RT.txt : RT → List Int
  | .mk _ _ _ t _ => t
/-- A raw value's name. -/
def nameR (r : RT) : List UInt8 := Quo.flat (textR (r.txt.take 8))
/-- Items, and in objects their names, each once. -/
def fitL (f : RT → J) (ob : Bool) : List RT → List (List UInt8) → List J → List (List UInt8) × List J
  | [], ns, is => (ns, is)
  | y :: l, ns, is => if ob = true ∧ nameR y ∈ ns then fitL f ob l ns is else fitL f ob l (if ob = true then ns ++ [nameR y] else ns) (is ++ [f y])
def fitJ : Nat → RT → J
  | 0, .mk k m e t is =>
    if 1 + pickS k 7 = 4 then .mk 4 (Dec.fitM m) (Dec.fitE m e) [] [] [] else if 1 + pickS k 7 = 5 then .mk 5 0 0 (Quo.flat (textR (t.take 20))) [] [] else .mk (1 + pickS k 7) 0 0 [] [] []
  | n + 1, .mk k m e t is =>
    if 1 + pickS k 7 = 4 then .mk 4 (Dec.fitM m) (Dec.fitE m e) [] [] [] else if 1 + pickS k 7 = 5 then .mk 5 0 0 (Quo.flat (textR (t.take 20))) [] []
    else if 1 + pickS k 7 = 6 ∨ 1 + pickS k 7 = 7 then .mk (1 + pickS k 7) 0 0 [] (fitL (fitJ n) (decide (1 + pickS k 7 = 7)) (is.take 12) [] []).1 (fitL (fitJ n) (decide (1 + pickS k 7 = 7)) (is.take 12) [] []).2
    else .mk (1 + pickS k 7) 0 0 [] [] []

/-- What holds of the list that Fit makes. -/
theorem fitL_all (f : RT → J) (ob : Bool) (P : J → Prop) : ∀ l ns is, (∀ y ∈ l, P (f y)) → (∀ i ∈ is, P i) → ∀ i ∈ (fitL f ob l ns is).2, P i
  | [], ns, is, _, h, i, hi => h i hi
  | y :: l, ns, is, h1, h2, i, hi => by
    rw [fitL] at hi
    split at hi
    · exact fitL_all f ob P l ns is (fun z hz => h1 z (List.mem_cons_of_mem _ hz)) h2 i hi
    · refine fitL_all f ob P l _ _ (fun z hz => h1 z (List.mem_cons_of_mem _ hz)) ?_ i hi
      intro x hx
      rcases List.mem_append.1 hx with hx | hx
      · exact h2 x hx
      · rw [List.mem_singleton.1 hx]; exact h1 y (List.mem_cons_self ..)
theorem fitL_names (f : RT → J) : ∀ l ns is, ns.Nodup → ns.length = is.length → (fitL f true l ns is).1.Nodup ∧ (fitL f true l ns is).1.length = (fitL f true l ns is).2.length
  | [], ns, is, h1, h2 => ⟨h1, h2⟩
  | y :: l, ns, is, h1, h2 => by
    rw [fitL]
    split
    · exact fitL_names f l ns is h1 h2
    · rename_i h
      rw [if_pos rfl]
      refine fitL_names f l _ _ ?_ (by simp; omega)
      refine List.nodup_append.2 ⟨h1, by simp, ?_⟩
      intro a ha b hb
      rw [List.mem_singleton.1 hb]
      rintro rfl
      exact h ⟨rfl, ha⟩
theorem fitL_none (f : RT → J) : ∀ l ns is, (fitL f false l ns is).1 = ns
  | [], ns, is => rfl
  | y :: l, ns, is => by
    rw [fitL, if_neg (by simp), if_neg (by decide)]
    exact fitL_none f l ns _
theorem fitL_namesP (f : RT → J) (P : List UInt8 → Prop) (hP : ∀ y, P (nameR y)) (ob : Bool) : ∀ l ns is, (∀ x ∈ ns, P x) → ∀ x ∈ (fitL f ob l ns is).1, P x
  | [], ns, is, h, x, hx => h x hx
  | y :: l, ns, is, h, x, hx => by
    rw [fitL] at hx
    split at hx
    · exact fitL_namesP f P hP ob l ns is h x hx
    · refine fitL_namesP f P hP ob l _ _ ?_ x hx
      intro z hz
      split at hz
      · rcases List.mem_append.1 hz with hz | hz
        · exact h z hz
        · rw [List.mem_singleton.1 hz]; exact hP y
      · exact h z hz
end Go.Proofs.YtmlpefpjemiccaaGreatDoor.Js

/- What Fit makes is right, and not long. -/
set_option linter.unusedVariables false
set_option linter.unusedSimpArgs false
namespace Go.Proofs.YtmlpefpjemiccaaGreatDoor.Js
open Go.RowKit Lex
open Quo (pickS pickS_nonneg pickS_lt IntsAt textR)

theorem names_of : ∀ (ns seen : List (List UInt8)), (∀ n ∈ ns, Quo.wholeB n = true) → ns.Nodup → (∀ n ∈ ns, n ∉ seen) → namesB seen ns = true
  | [], seen, _, _, _ => rfl
  | x :: r, seen, h1, h2, h3 => by
    obtain ⟨h4, h5⟩ := List.nodup_cons.1 h2
    rw [namesB, h1 x (List.mem_cons_self ..), names_of r (seen ++ [x]) (fun n hn => h1 n (List.mem_cons_of_mem _ hn)) h5 ?_]
    · simpa using h3 x (List.mem_cons_self ..)
    · intro n hn hc
      rcases List.mem_append.1 hc with h | h
      · exact h3 n (List.mem_cons_of_mem _ hn) h
      · rw [List.mem_singleton.1 h] at hn; exact h4 hn
theorem rightL_of {d : Nat} : ∀ {l : List J}, (∀ x ∈ l, rightJ d x = true) → rightL d l = true
  | [], _ => rfl
  | x :: r, h => by rw [rightL, h x (List.mem_cons_self ..), rightL_of (fun y hy => h y (List.mem_cons_of_mem _ hy))]; rfl
theorem whole_name (zs : List Int) : Quo.wholeB (Quo.flat (textR zs)) = true := Quo.wholeB_flat' (Quo.textR_vr zs)

theorem fit_bare {d : Nat} {k : Int} (hd : d ≤ 16) (h : k = 1 ∨ k = 2 ∨ k = 3 ∨ k = 6 ∨ k = 7) : rightJ d (.mk k 0 0 [] [] []) = true := by
  rw [rightJ]
  rcases h with rfl | rfl | rfl | rfl | rfl <;> simp [bareB, formB, namesB, rightL, hd]
theorem fit_right : ∀ (n d : Nat) (r : RT), d + n ≤ 16 → rightJ d (fitJ n r) = true
  | 0, d, .mk k m e t is, hd => by
    have h0 := pickS_nonneg (c := k) (n := 7) (by decide)
    have h1 := pickS_lt (c := k) (n := 7) (by decide)
    rw [fitJ]
    split
    · rw [rightJ]; simp [bareB, formB, rightL, Dec.fit_right]; omega
    · split
      · rw [rightJ]; simp [bareB, formB, rightL, whole_name]; omega
      · exact fit_bare (by omega) (by omega)
  | n + 1, d, .mk k m e t is, hd => by
    have h0 := pickS_nonneg (c := k) (n := 7) (by decide)
    have h1 := pickS_lt (c := k) (n := 7) (by decide)
    rw [fitJ]
    split
    · rw [rightJ]; simp [bareB, formB, rightL, Dec.fit_right]; omega
    · split
      · rw [rightJ]; simp [bareB, formB, rightL, whole_name]; omega
      · split
        · rename_i h
          have ih : ∀ y ∈ is.take 12, rightJ (d + 1) (fitJ n y) = true := fun y _ => fit_right n (d + 1) y (by omega)
          rcases h with h | h
          · rw [h, show decide ((6 : Int) = 7) = false from rfl, fitL_none, rightJ]
            have := rightL_of (fitL_all (fitJ n) false (fun x => rightJ (d + 1) x = true) (is.take 12) [] [] ih (by simp))
            rw [this]
            simp [bareB, formB]; omega
          · rw [h, rightJ]
            have := rightL_of (fitL_all (fitJ n) (decide ((7 : Int) = 7)) (fun x => rightJ (d + 1) x = true) (is.take 12) [] [] ih (by simp))
            rw [this]
            have h2 := fitL_names (fitJ n) (is.take 12) [] [] (by simp) rfl
            have h3 := fitL_namesP (fitJ n) (fun x => Quo.wholeB x = true) (fun y => whole_name _) true (is.take 12) [] [] (by simp)
            have h4 := names_of _ [] h3 h2.1 (by simp)
            simp only [decide_true] at *
            simp [bareB, formB, h4, h2.2]; omega
        · exact fit_bare (by omega) (by omega)

mutual
/-- How many raw values there are. -/
def rsz : RT → Nat
  | .mk _ _ _ _ is => 1 + rszL is
def rszL : List RT → Nat
  | [] => 0
  | x :: r => rsz x + rszL r
end
theorem rszL_take : ∀ (n : Nat) (l : List RT), rszL (l.take n) ≤ rszL l
  | 0, l => by simp [rszL]
  | n + 1, [] => by simp
  | n + 1, x :: r => by rw [List.take_succ_cons, rszL, rszL]; have := rszL_take n r; omega
theorem qr6 {r : Nat} (h : Quo.vr r) : (Quo.qr r).length ≤ 6 := by
  unfold Quo.qr
  have h4 := (Quo.enc_len r).2
  repeat' split
  all_goals first | (simp; done) | (simp [Quo.esc4] ; done) | omega
theorem bodyQ_len {rs : List Nat} (h : ∀ r ∈ rs, Quo.vr r) : (Quo.bodyQ rs).length ≤ 6 * rs.length := by
  unfold Quo.bodyQ
  induction rs with
  | nil => simp
  | cons r rs ih =>
    have h1 := qr6 (h r (by simp))
    have h2 := ih (fun r hr => h r (by simp [hr]))
    simp only [List.flatMap_cons, List.length_append, List.length_cons]
    omega
theorem quote_len (n : Nat) (hn : n ≤ 200) (zs : List Int) : (Quo.quoteL (Quo.flat (textR (zs.take n)))).length ≤ 6 * n + 2 := by
  have h := bodyQ_len (Quo.textR_vr (zs.take n))
  have h2 : (textR (zs.take n)).length ≤ n := by unfold Quo.textR; simp; omega
  unfold Quo.quoteL
  rw [Quo.qBody_flat' (Quo.textR_vr _)]
  simp
  omega
def sumP : List J → Nat
  | [] => 0
  | x :: r => (printJ x).length + 62 + sumP r
theorem sumP_app : ∀ a b : List J, sumP (a ++ b) = sumP a + sumP b
  | [], b => by simp [sumP]
  | x :: r, b => by rw [List.cons_append, sumP, sumP_app r b, sumP]; omega
theorem printL_len (o : Bool) : ∀ (is : List J) (f : Bool) (ns : List (List UInt8)), (∀ n ∈ ns, (Quo.quoteL n).length ≤ 60) → (printL o f ns is).length ≤ sumP is
  | [], f, ns, h => by rw [printL]; simp
  | x :: r, f, ns, h => by
    rw [printL, sumP]
    have h1 := printL_len o r false ns.tail (fun n hn => h n (List.mem_of_mem_tail hn))
    have h2 : (Quo.quoteL (ns.headD [])).length ≤ 60 := by
      cases ns with
      | nil => simp [Quo.quoteL, Quo.qBody]
      | cons y s => exact h y (List.mem_cons_self ..)
    generalize Quo.quoteL (ns.headD []) = q at *
    have h3 : (if o = true then q ++ [58] else []).length ≤ 61 := by split <;> simp <;> omega
    have h4 : (if f = true then ([] : List UInt8) else [44]).length ≤ 1 := by split <;> simp
    simp only [List.length_append]
    omega
def sumR (f : RT → J) : List RT → Nat
  | [] => 0
  | x :: r => (printJ (f x)).length + 62 + sumR f r
theorem fitL_sum (f : RT → J) (ob : Bool) : ∀ l ns is, sumP (fitL f ob l ns is).2 ≤ sumP is + sumR f l
  | [], ns, is => by simp [fitL, sumR]
  | y :: l, ns, is => by
    rw [fitL, sumR]
    split
    · have := fitL_sum f ob l ns is; omega
    · have := fitL_sum f ob l (if ob = true then ns ++ [nameR y] else ns) (is ++ [f y])
      rw [sumP_app, sumP, sumP] at this
      omega
theorem sumR_le (f : RT → J) (h : ∀ r, (printJ (f r)).length + 62 ≤ 200 * rsz r) : ∀ l, sumR f l ≤ 200 * rszL l
  | [] => by simp [sumR, rszL]
  | y :: l => by rw [sumR, rszL]; have := h y; have := sumR_le f h l; omega
theorem bare_len {k : Int} : (printJ (.mk k 0 0 [] [] [])).length ≤ 50 ∨ k = 4 ∨ k = 5 := by
  by_cases h : k = 4 ∨ k = 5
  · exact .inr h
  · left
    rw [printJ]
    repeat' split
    all_goals first | omega | (simp [nullL, falseL, trueL, printL])
theorem fit_len : ∀ (n : Nat) (r : RT), (printJ (fitJ n r)).length + 62 ≤ 200 * rsz r
  | 0, .mk k m e t is => by
    rw [fitJ, rsz]
    split
    · rw [printJ]; have := (Dec.print_len (Dec.fit_right m e)).1; simp; omega
    · split
      · rw [printJ]; have := quote_len 20 (by omega) t; simp; omega
      · rcases bare_len (k := 1 + pickS k 7) with h | h | h <;> omega
  | n + 1, .mk k m e t is => by
    rw [fitJ, rsz]
    split
    · rw [printJ]; have := (Dec.print_len (Dec.fit_right m e)).1; simp; omega
    · split
      · rw [printJ]; have := quote_len 20 (by omega) t; simp; omega
      · split
        · rename_i h
          have h1 := fun ob => fitL_sum (fitJ n) ob (is.take 12) [] []
          have h2 := sumR_le (fitJ n) (fit_len n) (is.take 12)
          have h3 := rszL_take 12 is
          have h4 : ∀ ob, ∀ x ∈ (fitL (fitJ n) ob (is.take 12) [] []).1, (Quo.quoteL x).length ≤ 60 := fun ob => fitL_namesP (fitJ n) (fun x => (Quo.quoteL x).length ≤ 60) (fun y => by have := quote_len 8 (by omega) y.txt; unfold nameR; omega) ob (is.take 12) [] [] (by simp)
          rcases h with h | h
          · rw [h, printJ]
            have := h1 (decide ((6 : Int) = 7))
            have h5 := printL_len false (fitL (fitJ n) (decide ((6 : Int) = 7)) (is.take 12) [] []).2 true [] (by simp)
            simp only [sumP] at this
            simp
            simp at this h5
            omega
          · rw [h, printJ]
            have := h1 (decide ((7 : Int) = 7))
            have h5 := printL_len true (fitL (fitJ n) (decide ((7 : Int) = 7)) (is.take 12) [] []).2 true (fitL (fitJ n) (decide ((7 : Int) = 7)) (is.take 12) [] []).1 (h4 _)
            simp only [sumP] at this
            simp
            simp at this h5
            omega
        · rcases bare_len (k := 1 + pickS k 7) with h | h | h <;> omega
end Go.Proofs.YtmlpefpjemiccaaGreatDoor.Js

/- Raw values in memory, and the contract of Fit for all but arrays and objects. -/
set_option linter.unusedVariables false
set_option linter.unusedSimpArgs false
namespace Go.Proofs.YtmlpefpjemiccaaGreatDoor.Js
open Go.RowKit Lex
open Quo (pickS pickS_nonneg pickS_lt IntsAt textR)

/-- A slice of numbers: its form, its room, what it reads as. -/
def TxtAt (w : World) (v : Value) (t : List Int) : Prop := IntsAt w v t ∧ ∃ ao c, v = .slice ao t.length c ∧ t.length ≤ c ∧ t.length ≤ 9223372036854775807
/-- A raw value in memory, its items n deep. -/
def RAt (w : World) : Nat → Value → RT → Prop
  | 0, v, .mk k m e t is => ∃ vt ai ci, v = .agg #[.int .i64 k, .int .i64 m, .int .i64 e, vt, .slice ai is.length ci] ∧ i64B k ∧ i64B m ∧ i64B e ∧ TxtAt w vt t ∧ is.length ≤ 9223372036854775807
  | n + 1, v, .mk k m e t is => ∃ vt ai ci, v = .agg #[.int .i64 k, .int .i64 m, .int .i64 e, vt, .slice ai is.length ci] ∧ i64B k ∧ i64B m ∧ i64B e ∧ TxtAt w vt t ∧ is.length ≤ 9223372036854775807 ∧
      (0 < is.length → ∃ b off, ai = some ⟨b, off, none⟩ ∧ b < w.heap.size ∧ ∀ i, i < is.length → ∃ u, LiesAt w b (off + i * 5) u ∧ RAt w n u (is.getD i rt0))
theorem TxtAt.below {w w' : World} {v : Value} {t : List Int} (h : TxtAt w v t) (hb : Below w.heap.size w w') : TxtAt w' v t := ⟨h.1.below hb, h.2⟩
theorem RAt.zero {w : World} : ∀ {n : Nat} {v : Value} {r : RT}, RAt w n v r → RAt w 0 v r
  | 0, _, _, h => h
  | n + 1, v, .mk k m e t is, h => by
    obtain ⟨vt, ai, ci, h1, h2, h3, h4, h5, h6, _⟩ := h
    exact ⟨vt, ai, ci, h1, h2, h3, h4, h5, h6⟩
theorem RAt.below {w w' : World} (hb : Below w.heap.size w w') : ∀ {n : Nat} {v : Value} {r : RT}, RAt w n v r → RAt w' n v r
  | 0, v, .mk k m e t is, h => by
    obtain ⟨vt, ai, ci, h1, h2, h3, h4, h5, h6⟩ := h
    exact ⟨vt, ai, ci, h1, h2, h3, h4, h5.below hb, h6⟩
  | n + 1, v, .mk k m e t is, h => by
    obtain ⟨vt, ai, ci, h1, h2, h3, h4, h5, h6, h7⟩ := h
    refine ⟨vt, ai, ci, h1, h2, h3, h4, h5.below hb, h6, fun hp => ?_⟩
    obtain ⟨b, off, e1, e2, e3⟩ := h7 hp
    refine ⟨b, off, e1, Nat.lt_of_lt_of_le e2 hb.size, fun i hi => ?_⟩
    obtain ⟨u, q1, q2⟩ := e3 i hi
    exact ⟨u, q1.keep (hb.block b e2), RAt.below hb q2⟩
/-- The first n of a slice of numbers. -/
theorem TxtAt.take {w : World} {ao : Option Addr} {c : Nat} {t : List Int} (h : TxtAt w (.slice ao t.length c) t) (n : Nat) : IntsAt w (.slice ao (min ((t.length : Nat) : Int) (n : Int)).toNat c) (t.take n) := by
  rcases h.1 with ⟨a, cap, e, rfl⟩ | ⟨b, off, cap, e, h1, h2, h3, h4, h5⟩
  · refine .inl ⟨ao, c, ?_, by simp⟩
    rw [show (min ((([] : List Int).length : Nat) : Int) (n : Int)).toNat = 0 by simp; omega]
  · simp only [Value.slice.injEq, true_and] at e
    obtain ⟨rfl, rfl⟩ := e
    have hl : (t.take n).length = (min ((t.length : Nat) : Int) (n : Int)).toNat := by simp; omega
    by_cases h0 : n = 0
    · subst h0
      exact .inl ⟨_, _, by rw [show (min ((t.length : Nat) : Int) ((0 : Nat) : Int)).toNat = 0 by omega], by simp⟩
    · have hg : ∀ j, j < (t.take n).length → (t.take n).getD j 0 = t.getD j 0 := fun j hj => by
        simp only [List.getD_eq_getElem?_getD]
        rw [List.getElem?_take, if_pos (by simp at hj; omega)]
      refine .inr ⟨b, off, _, by rw [hl], by omega, by omega, h3, fun j hj => ?_, fun j hj => ?_⟩
      · rw [hg j hj]; exact h4 j (by simp at hj; omega)
      · rw [hg j hj]; exact h5 j (by simp at hj; omega)

/-- What Fit leaves. -/
def FRet (w : World) (n : Nat) (j : J) (e : Ending) (w' : World) : Prop :=
  ∃ k m e1 t an nn cn ai ni ci, e = .returned (.agg #[.int .i64 k, .int .i64 m, .int .i64 e1, .string t, .slice an nn cn, .slice ai ni ci]) ∧
    JAt (fun b => w.heap.size ≤ b) w' n (.agg #[.int .i64 k, .int .i64 m, .int .i64 e1, .string t, .slice an nn cn, .slice ai ni ci]) j ∧ Below w.heap.size w w'
def FitOk (n : Nat) : Prop := ∀ (w : World) (v : Value) (r : RT), RAt w n v r → Calls Tryz.prog 6 #[v, .int .i64 ((16 - n : Nat) : Int)] w (FRet w (n + 1) (fitJ n r))
theorem dfit_any (m e : Int) (w : World) (hm : i64B m) (he : i64B e) : Calls Tryz.prog 16 #[.int .i64 m, .int .i64 e] w (Ret (.agg #[.int .i64 (Dec.fitM m), .int .i64 (Dec.fitE m e)]) w) := Dec.fit_any m e w hm.1 hm.2 he.1 he.2
theorem text_of (v : Value) (zs : List Int) (w : World) (h : IntsAt w v zs) : Calls Tryz.prog 17 #[v] w (Ret (.string ⟨(Quo.flat (textR zs)).toArray⟩) w) := Quo.text_any v zs w h

theorem below3 (w : World) (o1 o2 o3 : Obj) : Below w.heap.size w (((w.alloc o1).alloc o2).alloc o3) := (((Below.refl _ _).alloc (Nat.le_refl _) _).alloc (by simp) _).alloc (by simp; omega) _
theorem below2 (w : World) (o1 o2 : Obj) : Below w.heap.size w ((w.alloc o1).alloc o2) := ((Below.refl _ _).alloc (Nat.le_refl _) _).alloc (by simp) _
set_option maxHeartbeats 4000000 in
set_option maxRecDepth 100000 in
/-- Kinds 1, 2, 3: a bare value. -/
theorem fit_kind (k m e D : Int) (vt : Value) (ai : Option Addr) (ni ci n : Nat) (w : World) (hk : i64B k) (h : pickS k 7 = 0 ∨ pickS k 7 = 1 ∨ pickS k 7 = 2) :
    Calls Tryz.prog 6 #[.agg #[.int .i64 k, .int .i64 m, .int .i64 e, vt, .slice ai ni ci], .int .i64 D] w (FRet w (n + 1) (.mk (1 + pickS k 7) 0 0 [] [] [])) := by
  have P1 := Lib.hid (fun w => pick_any k 7 w hk (by decide) (by decide))
  rcases h with h | h | h
  all_goals
    rw [h] at P1 ⊢
    clear h
    go_enter Tryz.func6, Tryz.ntmps6
    go_wp2_with (go_at_call 13; (with_reducible refine (P1.out _).mono ?_); rintro e1 w1 ⟨rfl, rfl⟩)
  · refine bodyPost_ret (v := .agg #[.int .i64 1, .int .i64 0, .int .i64 0, .string ⟨#[]⟩, .slice none 0 0, .slice none 0 0]) (by simp [results, Tryz.results6, go_sem, cell_alloc_old]) rfl ?_
    exact ⟨_, _, _, _, _, _, _, _, _, _, rfl, leaf_jat ⟨by decide, by decide⟩ ⟨by decide, by decide⟩ ⟨by decide, by decide⟩ (by unfold txtB; simp), below3 _ _ _ _⟩
  · refine bodyPost_ret (v := .agg #[.int .i64 2, .int .i64 0, .int .i64 0, .string ⟨#[]⟩, .slice none 0 0, .slice none 0 0]) (by simp [results, Tryz.results6, go_sem, cell_alloc_old]) rfl ?_
    exact ⟨_, _, _, _, _, _, _, _, _, _, rfl, leaf_jat ⟨by decide, by decide⟩ ⟨by decide, by decide⟩ ⟨by decide, by decide⟩ (by unfold txtB; simp), below3 _ _ _ _⟩
  · refine bodyPost_ret (v := .agg #[.int .i64 3, .int .i64 0, .int .i64 0, .string ⟨#[]⟩, .slice none 0 0, .slice none 0 0]) (by simp [results, Tryz.results6, go_sem, cell_alloc_old]) rfl ?_
    exact ⟨_, _, _, _, _, _, _, _, _, _, rfl, leaf_jat ⟨by decide, by decide⟩ ⟨by decide, by decide⟩ ⟨by decide, by decide⟩ (by unfold txtB; simp), below3 _ _ _ _⟩
theorem three_cells {w : World} {o1 : Obj} {C D : Array Value} {T : TypeId} {w1 : World} (hb : Below (((w.alloc o1).alloc (.cells C T)).alloc (.cells D T)).heap.size (((w.alloc o1).alloc (.cells C T)).alloc (.cells D T)) w1) :
    w1.heap[w.heap.size + 1]? = some (.cells C T (0, 0)) ∧ w1.heap[w.heap.size + 2]? = some (.cells D T (0, 0)) ∧ w.heap.size + 2 < w1.heap.size ∧ Below w.heap.size w w1 := by
  have hs := hb.size
  simp at hs
  have e1 : (((w.alloc o1).alloc (.cells C T)).alloc (.cells D T)).heap[w.heap.size + 1]? = some (.cells C T (0, 0)) := by
    rw [Below.heap_alloc _ _ _ (by simp)]
    simpa using heap_alloc_new (w.alloc o1) (.cells C T (0, 0))
  have e2 : (((w.alloc o1).alloc (.cells C T)).alloc (.cells D T)).heap[w.heap.size + 2]? = some (.cells D T (0, 0)) := by
    simpa using heap_alloc_new ((w.alloc o1).alloc (.cells C T)) (.cells D T (0, 0))
  exact ⟨by rw [hb.block _ (by simp)]; exact e1, by rw [hb.block _ (by simp)]; exact e2, by omega, (below3 w _ _ _).trans (hb.mono (by simp; omega))⟩
theorem below_setc {w w1 : World} {B b i : Nat} (h : Below B w w1) (hb : B ≤ b) (u : Value) : Below B w (w1.setCell ⟨b, i, none⟩ u) :=
  ⟨h.os, h.tape, h.output, by rw [size_set]; exact h.size, fun k hk => (Below.heap_setCell _ _ _ _ (by show k ≠ b; omega)).trans (h.block k hk)⟩
theorem fret_fin {w w1 : World} {n bres : Nat} {j : J} {k m e : Int} {t : ByteArray} {a a' : Option Addr} {nn c nn' c' : Nat} (hB : Below w.heap.size w w1) (h1 : w.heap.size ≤ bres)
    (hJ : JAt (fun b => w.heap.size ≤ b ∧ b ≠ bres) w1 n (.agg #[.int .i64 k, .int .i64 m, .int .i64 e, .string t, .slice a nn c, .slice a' nn' c']) j) (c0 c1 c2 c3 c4 c5 : Value) :
    FRet w n j (.returned (.agg #[.int .i64 k, .int .i64 m, .int .i64 e, .string t, .slice a nn c, .slice a' nn' c'])) (put6 w1 bres 0 c0 c1 c2 c3 c4 c5) := by
  have hsz := put6_size w1 bres 0 c0 c1 c2 c3 c4 c5
  exact ⟨_, _, _, _, _, _, _, _, _, _, rfl, hJ.keep (fun b hb _ => hb.1) (fun b hb _ => put6_block w1 bres 0 c0 c1 c2 c3 c4 c5 b hb.2) (by omega), below_put6' hB h1 _ _ _ _ _ _⟩
set_option maxHeartbeats 4000000 in
set_option maxRecDepth 100000 in
/-- Kind 4: a number. -/
theorem fit_num (k m e D : Int) (vt : Value) (ai : Option Addr) (ni ci n : Nat) (w : World) (hk : i64B k) (hm : i64B m) (he : i64B e) (h : pickS k 7 = 3) :
    Calls Tryz.prog 6 #[.agg #[.int .i64 k, .int .i64 m, .int .i64 e, vt, .slice ai ni ci], .int .i64 D] w (FRet w (n + 1) (.mk 4 (Dec.fitM m) (Dec.fitE m e) [] [] [])) := by
  have P1 := Lib.hid (fun w => pick_any k 7 w hk (by decide) (by decide))
  have F1 := Lib.hid (fun w => dfit_any m e w hm he)
  have hB := Dec.rightB_bounds (Dec.fit_right m e)
  rw [h] at P1
  clear h
  generalize Dec.fitM m = M at *
  generalize Dec.fitE m e = E at *
  obtain ⟨q1, q2, q3, q4⟩ := hB
  go_enter Tryz.func6, Tryz.ntmps6
  go_wp2_with (first
    | (go_at_call 13; (with_reducible refine (P1.out _).mono ?_); rintro e1 w1 ⟨rfl, rfl⟩)
    | (go_at_call 16; (with_reducible refine (F1.out _).mono ?_); rintro e1 w1 ⟨rfl, hb1⟩; obtain ⟨x1, x2, x3, hbw⟩ := three_cells hb1; obtain ⟨y0, y1, y2, y3, y4, y5⟩ := six_of x2; obtain ⟨z0, z1, z2, z3, z4, z5⟩ := six_of x1; have f1 := free_of x2 1; have f2 := free_of x2 2; have g0 := free_of x1 0; have g1 := free_of x1 1; have g2 := free_of x1 2; have g3 := free_of x1 3; have g4 := free_of x1 4; have g5 := free_of x1 5))
  refine bodyPost_ret (v := .agg #[.int .i64 4, .int .i64 M, .int .i64 E, .string ⟨#[]⟩, .slice none 0 0, .slice none 0 0]) (by simp [results, Tryz.results6, go_sem, z0, z1, z2, z3, z4, z5]) rfl ?_
  exact fret_fin (bres := w.heap.size + 1) (below_setc (below_setc hbw (by omega) _) (by omega) _) (by omega) (leaf_jat ⟨by decide, by decide⟩ ⟨by omega, by omega⟩ ⟨by omega, by omega⟩ (by unfold txtB; simp)) _ _ _ _ _ _
theorem textR_lenN (n : Nat) (zs : List Int) : (Quo.flat (textR (zs.take n))).length ≤ 800 := Quo.textR_len _
set_option maxHeartbeats 4000000 in
set_option maxRecDepth 100000 in
/-- Kind 5: a text. -/
theorem fit_text (k m e D : Int) (vt : Value) (t : List Int) (ai : Option Addr) (ni ci n : Nat) (w : World) (hk : i64B k) (ht : TxtAt w vt t) (h : pickS k 7 = 4) :
    Calls Tryz.prog 6 #[.agg #[.int .i64 k, .int .i64 m, .int .i64 e, vt, .slice ai ni ci], .int .i64 D] w (FRet w (n + 1) (.mk 5 0 0 (Quo.flat (textR (t.take 20))) [] [])) := by
  have P1 := Lib.hid (fun w => pick_any k 7 w hk (by decide) (by decide))
  rw [h] at P1
  clear h
  have hL := textR_lenN 20 t
  have ht' := ht
  obtain ⟨_, ao, c, rfl, hc, hl⟩ := ht'
  have T1 := Lib.hid (fun (w' : World) (hb : Below w.heap.size w w') => text_of _ _ w' ((ht.take 20).below hb))
  generalize Quo.flat (textR (t.take 20)) = X at *
  have HT := Lib.hid ht
  clear ht
  generalize t.length = tl at *
  rw [show ((20 : Nat) : Int) = 20 from rfl] at T1
  go_enter Tryz.func6, Tryz.ntmps6
  go_wp2_with (first
    | (go_at_call 13; (with_reducible refine (P1.out _).mono ?_); rintro e1 w1 ⟨rfl, rfl⟩)
    | (go_at_call 17; (with_reducible refine (T1.out _ (below3 _ _ _ _)).mono ?_); rintro e1 w1 ⟨rfl, hb1⟩; obtain ⟨x1, x2, x3, hbw⟩ := three_cells hb1; obtain ⟨y0, y1, y2, y3, y4, y5⟩ := six_of x2; obtain ⟨z0, z1, z2, z3, z4, z5⟩ := six_of x1; have f1 := free_of x2 3; have g0 := free_of x1 0; have g1 := free_of x1 1; have g2 := free_of x1 2; have g3 := free_of x1 3; have g4 := free_of x1 4; have g5 := free_of x1 5))
  refine bodyPost_ret (v := .agg #[.int .i64 5, .int .i64 0, .int .i64 0, .string ⟨X.toArray⟩, .slice none 0 0, .slice none 0 0]) (by simp [results, Tryz.results6, go_sem, z0, z1, z2, z3, z4, z5]) rfl ?_
  exact fret_fin (bres := w.heap.size + 1) (below_setc hbw (by omega) _) (by omega) (leaf_jat ⟨by decide, by decide⟩ ⟨by decide, by decide⟩ ⟨by decide, by decide⟩ (by unfold txtB; omega)) _ _ _ _ _ _
set_option maxHeartbeats 4000000 in
set_option maxRecDepth 100000 in
/-- Kinds 6 and 7 with no items to be read: the depth is 16, or there are none. -/
theorem fit_empty (k m e : Int) (vt : Value) (ai : Option Addr) (ni ci n : Nat) (w : World) (hk : i64B k) (hni : ni ≤ 9223372036854775807) (h : pickS k 7 = 5 ∨ pickS k 7 = 6) :
    Calls Tryz.prog 6 #[.agg #[.int .i64 k, .int .i64 m, .int .i64 e, vt, .slice ai ni ci], .int .i64 16] w (FRet w (n + 1) (.mk (1 + pickS k 7) 0 0 [] [] [])) := by
  have P1 := Lib.hid (fun w => pick_any k 7 w hk (by decide) (by decide))
  rcases h with h | h
  · rw [h] at P1 ⊢
    clear h
    by_cases h0 : ni = 0
    · subst h0
      go_enter Tryz.func6, Tryz.ntmps6
      go_wp2_with (go_at_call 13; (with_reducible refine (P1.out _).mono ?_); rintro e1 w1 ⟨rfl, rfl⟩)
      go_loopw [7] (fun i wr => i = .int .i64 0 ∧ wr = (((w.alloc (.cells #[.int .i64 k, .int .i64 m, .int .i64 e, vt, .slice ai 0 ci] 31)).alloc (.cells #[.int .i64 0, .int .i64 0, .int .i64 0, .string ⟨#[]⟩, .slice none 0 0, .slice none 0 0] 27)).alloc (.cells #[.int .i64 6, .int .i64 0, .int .i64 0, .string ⟨#[]⟩, .slice none 0 0, .slice none 0 0] 27))) (fun _ _ => 0)
      case atStart => exact ⟨rfl, rfl⟩
      case round =>
        obtain ⟨rfl, rfl⟩ := hrel
        go_wp2_with fail
        refine bodyPost_ret (v := .agg #[.int .i64 6, .int .i64 0, .int .i64 0, .string ⟨#[]⟩, .slice none 0 0, .slice none 0 0]) (by simp [results, Tryz.results6, go_sem, cell_alloc_old]) rfl ?_
        exact ⟨_, _, _, _, _, _, _, _, _, _, rfl, leaf_jat ⟨by decide, by decide⟩ ⟨by decide, by decide⟩ ⟨by decide, by decide⟩ (by unfold txtB; simp), below3 _ _ _ _⟩
    · have hp : (0 : Int) < (ni : Int) := by omega
      go_enter Tryz.func6, Tryz.ntmps6
      go_wp2_with (go_at_call 13; (with_reducible refine (P1.out _).mono ?_); rintro e1 w1 ⟨rfl, rfl⟩)
      go_loopw [7] (fun i wr => i = .int .i64 0 ∧ wr = (((w.alloc (.cells #[.int .i64 k, .int .i64 m, .int .i64 e, vt, .slice ai ni ci] 31)).alloc (.cells #[.int .i64 0, .int .i64 0, .int .i64 0, .string ⟨#[]⟩, .slice none 0 0, .slice none 0 0] 27)).alloc (.cells #[.int .i64 6, .int .i64 0, .int .i64 0, .string ⟨#[]⟩, .slice none 0 0, .slice none 0 0] 27))) (fun _ _ => 0)
      case atStart => exact ⟨rfl, rfl⟩
      case round =>
        obtain ⟨rfl, rfl⟩ := hrel
        go_wp2_with fail
        refine bodyPost_ret (v := .agg #[.int .i64 6, .int .i64 0, .int .i64 0, .string ⟨#[]⟩, .slice none 0 0, .slice none 0 0]) (by simp [results, Tryz.results6, go_sem, cell_alloc_old]) rfl ?_
        exact ⟨_, _, _, _, _, _, _, _, _, _, rfl, leaf_jat ⟨by decide, by decide⟩ ⟨by decide, by decide⟩ ⟨by decide, by decide⟩ (by unfold txtB; simp), below3 _ _ _ _⟩
  · rw [h] at P1 ⊢
    clear h
    by_cases h0 : ni = 0
    · subst h0
      go_enter Tryz.func6, Tryz.ntmps6
      go_wp2_with (go_at_call 13; (with_reducible refine (P1.out _).mono ?_); rintro e1 w1 ⟨rfl, rfl⟩)
      go_loopw [7] (fun i wr => i = .int .i64 0 ∧ wr = (((w.alloc (.cells #[.int .i64 k, .int .i64 m, .int .i64 e, vt, .slice ai 0 ci] 31)).alloc (.cells #[.int .i64 0, .int .i64 0, .int .i64 0, .string ⟨#[]⟩, .slice none 0 0, .slice none 0 0] 27)).alloc (.cells #[.int .i64 7, .int .i64 0, .int .i64 0, .string ⟨#[]⟩, .slice none 0 0, .slice none 0 0] 27))) (fun _ _ => 0)
      case atStart => exact ⟨rfl, rfl⟩
      case round =>
        obtain ⟨rfl, rfl⟩ := hrel
        go_wp2_with fail
        refine bodyPost_ret (v := .agg #[.int .i64 7, .int .i64 0, .int .i64 0, .string ⟨#[]⟩, .slice none 0 0, .slice none 0 0]) (by simp [results, Tryz.results6, go_sem, cell_alloc_old]) rfl ?_
        exact ⟨_, _, _, _, _, _, _, _, _, _, rfl, leaf_jat ⟨by decide, by decide⟩ ⟨by decide, by decide⟩ ⟨by decide, by decide⟩ (by unfold txtB; simp), below3 _ _ _ _⟩
    · have hp : (0 : Int) < (ni : Int) := by omega
      go_enter Tryz.func6, Tryz.ntmps6
      go_wp2_with (go_at_call 13; (with_reducible refine (P1.out _).mono ?_); rintro e1 w1 ⟨rfl, rfl⟩)
      go_loopw [7] (fun i wr => i = .int .i64 0 ∧ wr = (((w.alloc (.cells #[.int .i64 k, .int .i64 m, .int .i64 e, vt, .slice ai ni ci] 31)).alloc (.cells #[.int .i64 0, .int .i64 0, .int .i64 0, .string ⟨#[]⟩, .slice none 0 0, .slice none 0 0] 27)).alloc (.cells #[.int .i64 7, .int .i64 0, .int .i64 0, .string ⟨#[]⟩, .slice none 0 0, .slice none 0 0] 27))) (fun _ _ => 0)
      case atStart => exact ⟨rfl, rfl⟩
      case round =>
        obtain ⟨rfl, rfl⟩ := hrel
        go_wp2_with fail
        refine bodyPost_ret (v := .agg #[.int .i64 7, .int .i64 0, .int .i64 0, .string ⟨#[]⟩, .slice none 0 0, .slice none 0 0]) (by simp [results, Tryz.results6, go_sem, cell_alloc_old]) rfl ?_
        exact ⟨_, _, _, _, _, _, _, _, _, _, rfl, leaf_jat ⟨by decide, by decide⟩ ⟨by decide, by decide⟩ ⟨by decide, by decide⟩ (by unfold txtB; simp), below3 _ _ _ _⟩
end Go.Proofs.YtmlpefpjemiccaaGreatDoor.Js

/- Fit's loop: what holds between its rounds. -/
set_option linter.unusedVariables false
set_option linter.unusedSimpArgs false
namespace Go.Proofs.YtmlpefpjemiccaaGreatDoor.Js
open Go.RowKit Lex
open Quo (pickS pickS_nonneg pickS_lt IntsAt textR)

theorem chg_of {B : Nat} {w w' : World} (h : Below B w w') (hB : w.heap.size ≤ B) : Chg (fun _ => False) w w' := ⟨h.os, h.tape, h.output, h.size, fun b hb _ => h.block b (by omega)⟩
theorem Own2.below {base bv n : Nat} {k : Int} {nv iv : Value} {ns : List (List UInt8)} {vs : List Value} {acc : List J} {w w' : World} (h : Own2 base bv n k nv iv ns vs acc w) {B : Nat} (hb : Below B w w') (hB : w.heap.size ≤ B) : Own2 base bv n k nv iv ns vs acc w' :=
  h.chg (chg_of hb hB) (fun _ _ h => h) (fun h => h)
section
variable {base bv n : Nat} {k : Int} {nv iv : Value} {ns : List (List UInt8)} {vs : List Value} {acc : List J} {w1 wS w2 : World} {g cp : Nat}
/-- What an append of an item and its store leave alone. -/
theorem item_frame (hgrow : wS.grownBy w2 iv.ownBlock) (hBS : Below w1.heap.size w1 wS) (u : Value) :
    (∀ b, b < w1.heap.size → some b ≠ iv.ownBlock → b ≠ bv → (w2.setCell ⟨bv, 5, none⟩ u).heap[b]? = w1.heap[b]?) ∧ w1.heap.size ≤ (w2.setCell ⟨bv, 5, none⟩ u).heap.size ∧ (w2.setCell ⟨bv, 5, none⟩ u).os = w1.os ∧ (w2.setCell ⟨bv, 5, none⟩ u).tape = w1.tape ∧ (w2.setCell ⟨bv, 5, none⟩ u).output = w1.output := by
  have hs := hgrow.size
  have hsS := hBS.size
  refine ⟨fun b hb h1 h2 => ?_, ?_, hgrow.os.trans hBS.os, hgrow.tape.trans hBS.tape, hgrow.output.trans hBS.output⟩
  · rw [Below.heap_setCell _ _ _ _ h2, hgrow.block b (by omega) h1, hBS.block b hb]
  · simp only [World.setCell, Array.size_modify]; omega
/-- An item more, appended as it is. -/
theorem step_item (hO : Own2 base bv n k nv iv ns vs acc w1) (hgrow : wS.grownBy w2 iv.ownBlock) (hBS : Below w1.heap.size w1 wS) (hat : iv.ownBlock = some g ∨ w1.heap.size ≤ g)
    {c0 c1 c2 c3 c4 c5 : Value} (hown : w2.ownsRow base 27 6 (.slice (some ⟨g, 0, none⟩) (acc.length + 1) cp) (acc.length + 1) (vs.flatMap aggC ++ [c0, c1, c2, c3, c4, c5]))
    {S : Nat → Prop} {j : J} (hJ : JAt S w1 n (.agg #[c0, c1, c2, c3, c4, c5]) j) (hq : ∀ b, S b → b < w1.heap.size → base ≤ b ∧ some b ≠ iv.ownBlock ∧ some b ≠ nv.ownBlock ∧ b ≠ bv) :
    Own2 base bv n k nv (.slice (some ⟨g, 0, none⟩) (acc.length + 1) cp) ns (vs ++ [.agg #[c0, c1, c2, c3, c4, c5]]) (acc ++ [j]) (w2.setCell ⟨bv, 5, none⟩ (.slice (some ⟨g, 0, none⟩) (acc.length + 1) cp)) := by
  obtain ⟨F1, F2, F3, F4, F5⟩ := item_frame (bv := bv) (iv := iv) hgrow hBS (.slice (some ⟨g, 0, none⟩) (acc.length + 1) cp)
  have hbl := Own.block_lt hO.blk
  have hbg : bv ≠ g := by
    rcases hat with h | h
    · rintro rfl; exact hO.ine h
    · omega
  have hsS := hBS.size
  have hne2 : some bv ≠ iv.ownBlock := fun h => hO.ine h.symm
  have hb2 : w2.heap[bv]? = w1.heap[bv]? := by rw [hgrow.block bv (by omega) hne2, hBS.block bv hbl]
  have hnlt : ∀ b, nv.ownBlock = some b → b < w1.heap.size := fun b hb => (hO.nrow.lt b hb).2
  have hnapart : nv.ownBlock = none ∨ nv.ownBlock ≠ iv.ownBlock := Own.own_apart hO.irow hO.nrow (by decide)
  refine ⟨set_cell5 (hb2.trans hO.blk) _, ?_, ?_, by simp [hO.vl], by simpa [Value.ownBlock] using Ne.symm hbg, hO.txt, fun i hi => ?_⟩
  · have := ownsRow_setCell_other hown (a := ⟨bv, 5, none⟩) (by simpa [Value.ownBlock] using Ne.symm hbg) (.slice (some ⟨g, 0, none⟩) (acc.length + 1) cp)
    simpa [aggC] using this
  · refine ⟨hO.nrow.1, ?_⟩
    rcases hO.nrow.2 with hn | ⟨gn, cap, cur, hv, hbg', hg, hr⟩
    · exact .inl hn
    · refine .inr ⟨gn, cap, cur, hv, hbg', ?_, hr⟩
      have e1 : nv.ownBlock = some gn := by rw [hv]; rfl
      rw [F1 gn (hnlt gn e1) ?_ ?_]; exact hg
      · intro h
        rcases hnapart with h' | h'
        · rw [h'] at e1; cases e1
        · exact h' (e1.trans h)
      · rintro rfl
        have := hO.blk; rw [hg] at this; cases this
  · have hS : ∀ b, (base ≤ b ∧ some b ≠ iv.ownBlock ∧ some b ≠ nv.ownBlock ∧ b ≠ bv) → b < w1.heap.size → InS base bv nv (.slice (some ⟨g, 0, none⟩) (acc.length + 1) cp) b := fun b hb hlt => by
      refine ⟨hb.1, ?_, hb.2.2.1, hb.2.2.2⟩
      show some b ≠ some g
      intro e
      cases e
      rcases hat with h | h
      · exact hb.2.1 h.symm
      · omega
    by_cases hia : i < acc.length
    · have := hO.items i hia
      have e1 : (vs ++ [Value.agg #[c0, c1, c2, c3, c4, c5]]).getD i undef = vs.getD i undef := by rw [List.getD_eq_getElem?_getD, List.getD_eq_getElem?_getD, List.getElem?_append_left (by rw [hO.vl]; exact hia)]
      have e2 : (acc ++ [j]).getD i j0 = acc.getD i j0 := by rw [List.getD_eq_getElem?_getD, List.getD_eq_getElem?_getD, List.getElem?_append_left hia]
      rw [e1, e2]
      exact this.keep (fun b hb hlt => hS b hb hlt) (fun b hb hlt => F1 b hlt hb.2.1 hb.2.2.2) F2
    · have hi' : i = acc.length := by simp at hi; omega
      subst hi'
      have e1 : (vs ++ [Value.agg #[c0, c1, c2, c3, c4, c5]]).getD acc.length undef = .agg #[c0, c1, c2, c3, c4, c5] := by rw [← hO.vl, List.getD_eq_getElem?_getD, List.getElem?_append_right (Nat.le_refl _)]; simp
      have e2 : (acc ++ [j]).getD acc.length j0 = j := by rw [List.getD_eq_getElem?_getD, List.getElem?_append_right (Nat.le_refl _)]; simp
      rw [e1, e2]
      exact hJ.keep (fun b hb hlt => hS b (hq b hb hlt) hlt) (fun b hb hlt => F1 b hlt (hq b hb hlt).2.1 (hq b hb hlt).2.2.2) F2
end
/-- What holds between the rounds of Fit's loop: the box of the raw value, the place of the answer, the value under construction. -/
structure FI (w : World) (n : Nat) (K : Int) (X : Array Value) (ns : List (List UInt8)) (acc : List J) (wr : World) : Prop where
  bel : Below w.heap.size w wr
  bx : wr.heap[w.heap.size]? = some (.cells X 31 (0, 0))
  bres : wr.heap[w.heap.size + 1]? = some (.cells zero6 27 (0, 0))
  own : ∃ nv iv vs, Own2 (w.heap.size + 3) (w.heap.size + 2) (n + 1) K nv iv ns vs acc wr
  sz : w.heap.size + 3 ≤ wr.heap.size
theorem FI.below {w : World} {n : Nat} {K : Int} {X : Array Value} {ns : List (List UInt8)} {acc : List J} {wr w' : World} (h : FI w n K X ns acc wr) {B : Nat} (hb : Below B wr w') (hB : wr.heap.size ≤ B) : FI w n K X ns acc w' := by
  obtain ⟨nv, iv, vs, hO⟩ := h.own
  have hs := h.sz
  have hs2 := hb.size
  exact ⟨h.bel.trans (hb.mono (by omega)), (hb.block _ (by omega)).trans h.bx, (hb.block _ (by omega)).trans h.bres, ⟨nv, iv, vs, hO.below hb hB⟩, by omega⟩
theorem FI.begin {w : World} {n : Nat} {K : Int} {X : Array Value} : FI w n K X [] [] (((w.alloc (.cells X 31)).alloc (.cells zero6 27)).alloc (.cells #[.int .i64 K, .int .i64 0, .int .i64 0, .string ⟨#[]⟩, .slice none 0 0, .slice none 0 0] 27)) := by
  have hs : (((w.alloc (.cells X 31)).alloc (.cells zero6 27)).alloc (.cells #[.int .i64 K, .int .i64 0, .int .i64 0, .string ⟨#[]⟩, .slice none 0 0, .slice none 0 0] 27)).heap.size = w.heap.size + 3 := by simp
  obtain ⟨x1, x2, x3, x4⟩ := three_cells (Below.refl _ (((w.alloc (.cells X 31)).alloc (.cells zero6 27)).alloc (.cells #[.int .i64 K, .int .i64 0, .int .i64 0, .string ⟨#[]⟩, .slice none 0 0, .slice none 0 0] 27)))
  refine ⟨below3 _ _ _ _, ?_, x1, ⟨_, _, _, own2_new x2⟩, by omega⟩
  rw [Below.heap_alloc _ _ _ (by simp; omega), Below.heap_alloc _ _ _ (by simp)]
  exact heap_alloc_new w _
/-- A round that appends an item. -/
theorem FI.item {w : World} {n : Nat} {K : Int} {X : Array Value} {ns : List (List UInt8)} {acc : List J} {wq w1 wS w2 : World} {nv iv : Value} {vs : List Value} {g cp : Nat} {c0 c1 c2 c3 c4 c5 : Value} {j : J}
    (h : FI w n K X ns acc wq) (hO : Own2 (w.heap.size + 3) (w.heap.size + 2) (n + 1) K nv iv ns vs acc wq) (hb1 : Below wq.heap.size wq w1) (hBS : Below w1.heap.size w1 wS) (hgrow : wS.grownBy w2 iv.ownBlock) (hat : iv.ownBlock = some g ∨ w1.heap.size ≤ g)
    (hown : w2.ownsRow (w.heap.size + 3) 27 6 (.slice (some ⟨g, 0, none⟩) (acc.length + 1) cp) (acc.length + 1) (vs.flatMap aggC ++ [c0, c1, c2, c3, c4, c5]))
    (hJ : JAt (fun b => wq.heap.size ≤ b) w1 (n + 1) (.agg #[c0, c1, c2, c3, c4, c5]) j) : FI w n K X ns (acc ++ [j]) (w2.setCell ⟨w.heap.size + 2, 5, none⟩ (.slice (some ⟨g, 0, none⟩) (acc.length + 1) cp)) := by
  have h1 := h.below hb1 (Nat.le_refl _)
  have hO1 := hO.below hb1 (Nat.le_refl _)
  have hsq := h.sz
  have hs1 := hb1.size
  obtain ⟨F1, F2, F3, F4, F5⟩ := item_frame (bv := w.heap.size + 2) (iv := iv) hgrow hBS (.slice (some ⟨g, 0, none⟩) (acc.length + 1) cp)
  have hib : ∀ b, iv.ownBlock = some b → w.heap.size + 3 ≤ b ∧ b < wq.heap.size := fun b hb => hO.irow.lt b hb
  have hnb : ∀ b, nv.ownBlock = some b → w.heap.size + 3 ≤ b ∧ b < wq.heap.size := fun b hb => hO.nrow.lt b hb
  refine ⟨⟨F3.trans h1.bel.os, F4.trans h1.bel.tape, F5.trans h1.bel.output, by have := h1.sz; omega, fun b hb => ?_⟩, ?_, ?_, ⟨nv, _, _, step_item hO1 hgrow hBS hat hown hJ (fun b hb _ => ⟨by omega, fun h => by have := (hib b h.symm).2; omega, fun h => by have := (hnb b h.symm).2; omega, by omega⟩)⟩, by have := h1.sz; omega⟩
  · rw [F1 b (by omega) (fun h => by have := (hib b h.symm).1; omega) (by omega)]; exact h1.bel.block b hb
  · rw [F1 _ (by omega) (fun h => by have := (hib _ h.symm).1; omega) (by omega)]; exact h1.bx
  · rw [F1 _ (by omega) (fun h => by have := (hib _ h.symm).1; omega) (by omega)]; exact h1.bres
/-- The answer. -/
theorem FI.fin {w : World} {n : Nat} {K : Int} {X : Array Value} {ns : List (List UInt8)} {acc : List J} {wr : World} (h : FI w n K X ns acc wr) (hK : i64B K) (hn : ns.length ≤ 1000000) (ha : acc.length ≤ 1000000) :
    ∃ a nn c a' nn' c', wr.heap[w.heap.size + 2]? = some (.cells #[.int .i64 K, .int .i64 0, .int .i64 0, .string ⟨#[]⟩, .slice a nn c, .slice a' nn' c'] 27 (0, 0)) ∧
      ∀ c0 c1 c2 c3 c4 c5, FRet w (n + 2) (.mk K 0 0 [] ns acc) (.returned (.agg #[.int .i64 K, .int .i64 0, .int .i64 0, .string ⟨#[]⟩, .slice a nn c, .slice a' nn' c'])) (put6 wr (w.heap.size + 1) 0 c0 c1 c2 c3 c4 c5) := by
  obtain ⟨nv, iv, vs, hO⟩ := h.own
  have hj := hO.jat hK hn ha
  have hb := hO.blk
  obtain ⟨ao, c, rfl⟩ := own_slice hO.irow
  obtain ⟨an, cn, rfl⟩ := own_slice hO.nrow
  exact ⟨_, _, _, _, _, _, hb, fun c0 c1 c2 c3 c4 c5 => fret_fin h.bel (by omega) (hj.keep (fun b hb _ => ⟨by omega, by omega⟩) (fun _ _ _ => rfl) (Nat.le_refl _)) _ _ _ _ _ _⟩
end Go.Proofs.YtmlpefpjemiccaaGreatDoor.Js

/- The contract of Fit: arrays. -/
set_option linter.unusedVariables false
set_option linter.unusedSimpArgs false
namespace Go.Proofs.YtmlpefpjemiccaaGreatDoor.Js
open Go.RowKit Lex
open Quo (pickS pickS_nonneg pickS_lt IntsAt textR)

theorem five_cells {w : World} {b o : Nat} {c0 c1 c2 c3 c4 : Value} (h : LiesAt w b o (.agg #[c0, c1, c2, c3, c4])) :
    w.cell? ⟨b, o, none⟩ = some c0 ∧ w.cell? ⟨b, o + 1, none⟩ = some c1 ∧ w.cell? ⟨b, o + 2, none⟩ = some c2 ∧ w.cell? ⟨b, o + 3, none⟩ = some c3 ∧ w.cell? ⟨b, o + 4, none⟩ = some c4 :=
  ⟨h 0 c0 rfl, h 1 c1 rfl, h 2 c2 rfl, h 3 c3 rfl, h 4 c4 rfl⟩
theorem five_of {w : World} {b : Nat} {T : TypeId} {f : Nat × Nat} {c0 c1 c2 c3 c4 : Value} (h : w.heap[b]? = some (.cells #[c0, c1, c2, c3, c4] T f)) :
    w.cell? ⟨b, 0, none⟩ = some c0 ∧ w.cell? ⟨b, 1, none⟩ = some c1 ∧ w.cell? ⟨b, 2, none⟩ = some c2 ∧ w.cell? ⟨b, 3, none⟩ = some c3 ∧ w.cell? ⟨b, 4, none⟩ = some c4 := by
  have k : ∀ i, w.cell? ⟨b, i, none⟩ = (#[c0, c1, c2, c3, c4] : Array Value)[i]? := fun i => cell_of_row _ _ _ _ _ _ h
  exact ⟨k 0, k 1, k 2, k 3, k 4⟩
theorem RAt.form {w : World} {n : Nat} {v : Value} {r : RT} (h : RAt w n v r) : ∃ k m e ao tl c ai ni ci, v = .agg #[.int .i64 k, .int .i64 m, .int .i64 e, .slice ao tl c, .slice ai ni ci] ∧ TxtAt w (.slice ao tl c) r.txt ∧ tl = r.txt.length ∧ tl ≤ c ∧ tl ≤ 9223372036854775807 := by
  obtain ⟨k, m, e, t, is⟩ := r
  obtain ⟨vt, ai, ci, rfl, _, _, _, ht, _⟩ := h.zero
  obtain ⟨_, ao, c, rfl, h1, h2⟩ := id ht
  exact ⟨_, _, _, _, _, _, _, _, _, rfl, ht, rfl, h1, h2⟩
theorem drop_getD {l : List RT} {q : Nat} (h : q < (l.take 12).length) : (l.take 12).drop q = l.getD q rt0 :: (l.take 12).drop (q + 1) := by
  rw [List.drop_eq_getElem_cons h]
  congr 1
  rw [List.getElem_take, List.getD_eq_getElem?_getD, List.getElem?_eq_getElem (by simp at h; omega)]
  rfl

set_option maxHeartbeats 8000000 in
set_option maxRecDepth 100000 in
theorem fit_arr (n : Nat) (hn : n ≤ 14) (ih : FitOk n) (w : World) (k m e : Int) (t : List Int) (is : List RT) (v : Value) (hR : RAt w (n + 1) v (.mk k m e t is)) (hK : pickS k 7 = 5) :
    Calls Tryz.prog 6 #[v, .int .i64 ((16 - (n + 1) : Nat) : Int)] w (FRet w (n + 2) (.mk 6 0 0 [] (fitL (fitJ n) false (is.take 12) [] []).1 (fitL (fitJ n) false (is.take 12) [] []).2)) := by
  obtain ⟨vt, ai, ci, rfl, hk, hm, he, ht, hni, hit⟩ := hR
  have P1 := Lib.hid (fun w => pick_any k 7 w hk (by decide) (by decide))
  rw [hK] at P1
  have hD : ((16 - n : Nat) : Int) = ((16 - (n + 1) : Nat) : Int) + 1 := by omega
  have hD1 : ((16 - (n + 1) : Nat) : Int) < 16 := by omega
  have hD0 : (0 : Int) ≤ ((16 - (n + 1) : Nat) : Int) := by omega
  have IH : Hid (∀ (w' : World) (u : Value) (y : RT), RAt w n u y → Below w.heap.size w w' → Calls Tryz.prog 6 #[u, .int .i64 (((16 - (n + 1) : Nat) : Int) + 1)] w' (FRet w' (n + 1) (fitJ n y))) := fun w' u y hu hb => by rw [← hD]; exact ih w' u y (hu.below hb)
  generalize ((16 - (n + 1) : Nat) : Int) = D at *
  clear hK hD ih hk hm he ht
  have HIT := Lib.hid hit
  have HL : Hid ((is.take 12).length = min is.length 12) := by show _ = _; simp; omega
  obtain ⟨FN, HFN⟩ : ∃ FN, Hid (fitL (fitJ n) false (is.take 12) [] [] = FN) := ⟨_, rfl⟩
  rw [HFN.out]
  obtain ⟨i0, hi0, hz0, hz1, hz2⟩ := info_parts json_info
  clear hit
  go_enter Tryz.func6, Tryz.ntmps6
  go_wp2_with (go_at_call 13; (with_reducible refine (P1.out _).mono ?_); rintro e1 w1 ⟨rfl, rfl⟩)
  go_loopw [7] (fun i wr => ∃ (q : Nat) (acc : List J), q ≤ 12 ∧ q ≤ is.length ∧ i = .int .i64 (q : Int) ∧ Hid (fitL (fitJ n) false ((is.take 12).drop q) [] acc = FN) ∧ acc.length ≤ q ∧ Hid (FI w n 6 #[.int .i64 k, .int .i64 m, .int .i64 e, vt, .slice ai is.length ci] [] acc wr)) (fun i _ => 13 - (intOf i).toNat)
  case atStart => exact ⟨0, [], by omega, by omega, rfl, HFN, by simp, FI.begin⟩
  case round =>
    obtain ⟨q, acc, hq12, hqn, rfl, HF, hal, HI⟩ := hrel
    have hsz := HI.out.sz
    obtain ⟨xx0, xx1, xx2, xx3, xx4⟩ := five_of HI.out.bx
    by_cases hlt : q < is.length ∧ q < 12
    · obtain ⟨hl1, hl2⟩ := hlt
      have a1 : (q : Int) < (is.length : Int) := by omega
      have a2 : (q : Int) < 12 := by omega
      obtain ⟨b, off, rfl, hbl, hel⟩ := HIT.out (by omega)
      obtain ⟨u, hlies, hu⟩ := hel q hl1
      obtain ⟨k', m', e', ao, tl, c, ai', ni', ci', rfl, htx, htl, hc1, hc2⟩ := hu.form
      obtain ⟨v0, v1, v2, v3, v4⟩ := five_cells (hlies.keep (HI.out.bel.block b hbl))
      have T1 : Hid (∀ w', Below w.heap.size w w' → Calls Tryz.prog 17 #[.slice ao (min (tl : Int) 8).toNat c] w' (Ret (.string ⟨(nameR (is.getD q rt0)).toArray⟩) w')) := fun w' hb => by
        subst htl
        exact text_of _ _ w' ((htx.take 8).below hb)
      have HU : Hid (RAt w n (.agg #[.int .i64 k', .int .i64 m', .int .i64 e', .slice ao tl c, .slice ai' ni' ci']) (is.getD q rt0)) := hu
      have HS : Hid ((is.take 12).drop q = is.getD q rt0 :: (is.take 12).drop (q + 1)) := drop_getD (by rw [HL.out]; omega)
      clear hel hlies htx hu htl
      generalize is.getD q rt0 = y at *
      have HBW : Hid (∀ o, Below w.heap.size w (wr.alloc o)) := fun o => HI.out.bel.alloc HI.out.bel.size o
      have hblr : b < wr.heap.size := by have := HI.out.bel.size; omega
      go_wp2_with (go_at_call 17; (with_reducible refine (T1.out _ (HBW.out _)).mono ?_); rintro e1 w2 ⟨rfl, hb2⟩)
      have HF2 : Hid (fitL (fitJ n) false ((is.take 12).drop (q + 1)) [] (acc ++ [fitJ n y]) = FN) := by
        have h1 := HF.out
        rw [HS.out, fitL, if_neg (by simp), if_neg (by decide)] at h1
        exact h1
      have hs2 := hb2.size
      simp only [World.size_alloc] at hs2
      have hFI := (HI.out.below ((Below.refl _ _).alloc (Nat.le_refl _) _) (Nat.le_refl _)).below hb2 (Nat.le_refl _)
      have hbyl : w2.heap[wr.heap.size]? = some (.cells #[.int .i64 k', .int .i64 m', .int .i64 e', .slice ao tl c, .slice ai' ni' ci'] 31 (0, 0)) := (hb2.block _ (by simp)).trans (heap_alloc_new wr _)
      have HBB : Hid (Below w.heap.size w w2) := hFI.bel
      obtain ⟨nv, iv, vs, hO⟩ := hFI.own
      clear HI HBW T1 hb2 v0 v1 v2 v3 v4 xx0 xx1 xx2 xx3 xx4 hblr
      obtain ⟨p0, p1, p2, p3, p4⟩ := five_of hbyl
      have hpl : wr.heap.size < w2.heap.size := Own.block_lt hbyl
      have HFI := Lib.hid hFI
      have HO := Lib.hid hO
      have hsz2 := hFI.sz
      have hbl2 : w.heap.size + 2 < w2.heap.size := by omega
      obtain ⟨ao2, cap2, rfl⟩ := own_slice hO.irow
      obtain ⟨y0, y1, y2, y3, y4, y5⟩ := six_of hO.blk
      clear hFI hO hbyl
      have IC := Lib.hid (IH.out w2.drew _ y HU.out HBB.out.drew)
      unfold FRet at IC
      rw [show D + 1 = IntKind.i64.wrap (D + 1) by rw [IntKind.wrap_i64]; omega] at IC
      clear IH HU
      go_region_law (first
        | (go_simp; go_at_call 6; (with_reducible refine (IC.out).mono ?_); rintro e3 w3 ⟨k3, m3, e3', t3, an3, nn3, cn3, ai3, ni3, ci3, rfl, hJ3, hb3⟩; have hb3' : Below w2.heap.size w2 w3 := ((Below.refl _ _).drew).trans hb3; have hs3 := hb3'.size; have hl3 : w.heap.size + 2 < w3.heap.size := (by omega); have hl3' : w.heap.size + 1 + 1 < w3.heap.size := (by omega); have HO3 := Lib.hid (HO.out.below hb3' (Nat.le_refl _)); have y5' := (six_of HO3.out.blk).2.2.2.2.2; have yf := free_of HO3.out.blk 5; have HNE := Lib.hid HO3.out.ine)
        | (refine step_append_lies _ (by rfl) _ _ _ (by rfl) (w.heap.size + 3) 27 i0 _ 6 88 Tryz.underlying25 hi0 hz0 hz1 hz2 rfl (by omega) _ acc.length (vs.flatMap aggC) (by rfl) (HO3.out.irow.alloc _) ⟨w3.heap.size, 0, none⟩ 1 1 [.int .i64 k3, .int .i64 m3, .int .i64 e3', .string t3, .slice an3 nn3 cn3, .slice ai3 ni3 ci3] (by rfl) (by rfl) (World.news_of_block (cs := #[.int .i64 k3, .int .i64 m3, .int .i64 e3', .string t3, .slice an3 nn3 cn3, .slice ai3 ni3 ci3]) (t := 27) (fr := (0, 0)) (heap_alloc_new _ _)) (by simp [Value.oneCell']) (by omega) (by unfold maxLen; omega) (by omega) (by simp; omega) (w3.heap.size + 1) (by simp) ?_; intro g cp w4 hown hgrow hat hlt; have k5 := (hgrow.cell_far ⟨w.heap.size + 2, 5, none⟩ (by simp; omega) (fun h => HNE.out h.symm)).trans ((World.cell?_of_block (w := w3) (a := ⟨w.heap.size + 2, 5, none⟩) (Below.heap_alloc _ _ _ (by show w.heap.size + 2 < w3.heap.size; omega))).trans y5'); have kf := (hgrow.frozen_far ⟨w.heap.size + 2, 5, none⟩ (by simp; omega) (fun h => HNE.out h.symm)).trans ((World.frozen?_of_block (w := w3) (a := ⟨w.heap.size + 2, 5, none⟩) (Below.heap_alloc _ _ _ (by show w.heap.size + 2 < w3.heap.size; omega))).trans yf)))
      all_goals go_wp2_with fail
      all_goals go_roundw
      all_goals first
        | exact ⟨q + 1, acc ++ [fitJ n y], by omega, by omega, by go_num, HF2, by simp; omega, HFI.out.item HO.out hb3' ((Below.refl _ _).alloc (Nat.le_refl _) _) hgrow (hat.imp id (fun h => by omega)) hown hJ3⟩
        | (simp [intOf]; omega)
    · obtain ⟨a, nn, c, a', nn', c', hblk, hfin⟩ := HI.out.fin ⟨by decide, by decide⟩ (by simp) (by omega)
      obtain ⟨y0, y1, y2, y3, y4, y5⟩ := six_of hblk
      have hres := HI.out.bres
      unfold zero6 at hres
      obtain ⟨z0, z1, z2, z3, z4, z5⟩ := six_of hres
      have g0 := free_of hres 0
      have g1 := free_of hres 1
      have g2 := free_of hres 2
      have g3 := free_of hres 3
      have g4 := free_of hres 4
      have g5 := free_of hres 5
      have HEQ : Hid (FN = ([], acc)) := by
        have h1 := HF.out
        rw [List.drop_eq_nil_of_le (by rw [HL.out]; omega), fitL] at h1
        exact h1.symm
      have HFIN := Lib.hid hfin
      clear hfin hblk hres HI
      by_cases hl : q < is.length
      · have a1 : (q : Int) < (is.length : Int) := by omega
        obtain rfl : q = 12 := by omega
        go_wp2_with fail
        refine bodyPost_ret (v := .agg #[.int .i64 6, .int .i64 0, .int .i64 0, .string ⟨#[]⟩, .slice a nn c, .slice a' nn' c']) (by simp [results, Tryz.results6, go_sem, z0, z1, z2, z3, z4, z5]) rfl ?_
        rw [HEQ.out]
        exact HFIN.out _ _ _ _ _ _
      · obtain rfl : q = is.length := by omega
        go_wp2_with fail
        refine bodyPost_ret (v := .agg #[.int .i64 6, .int .i64 0, .int .i64 0, .string ⟨#[]⟩, .slice a nn c, .slice a' nn' c']) (by simp [results, Tryz.results6, go_sem, z0, z1, z2, z3, z4, z5]) rfl ?_
        rw [HEQ.out]
        exact HFIN.out _ _ _ _ _ _
end Go.Proofs.YtmlpefpjemiccaaGreatDoor.Js

/- The contract of Fit: objects. -/
set_option linter.unusedVariables false
set_option linter.unusedSimpArgs false
namespace Go.Proofs.YtmlpefpjemiccaaGreatDoor.Js
open Go.RowKit Lex
open Quo (pickS pickS_nonneg pickS_lt IntsAt textR)

/-- A round that appends a name. -/
theorem FI.name {w : World} {n : Nat} {K : Int} {X : Array Value} {ns : List (List UInt8)} {acc : List J} {wq wS w2 : World} {nv iv : Value} {vs : List Value} {g cp : Nat} {nm : List UInt8}
    (h : FI w n K X ns acc wq) (hO : Own2 (w.heap.size + 3) (w.heap.size + 2) (n + 1) K nv iv ns vs acc wq) (hBS : Below wq.heap.size wq wS) (hgrow : wS.grownBy w2 nv.ownBlock) (hat : nv.ownBlock = some g ∨ wq.heap.size ≤ g) (ht : txtB nm)
    (hown : w2.ownsRow (w.heap.size + 3) 9 1 (.slice (some ⟨g, 0, none⟩) (ns.length + 1) cp) (ns.length + 1) (ns.map strW ++ [strW nm])) :
    FI w n K X (ns ++ [nm]) acc (w2.setCell ⟨w.heap.size + 2, 4, none⟩ (.slice (some ⟨g, 0, none⟩) (ns.length + 1) cp)) ∧
      ∀ b, b < wq.heap.size → some b ≠ nv.ownBlock → b ≠ w.heap.size + 2 → (w2.setCell ⟨w.heap.size + 2, 4, none⟩ (.slice (some ⟨g, 0, none⟩) (ns.length + 1) cp)).heap[b]? = wq.heap[b]? := by
  have hsq := h.sz
  obtain ⟨F1, F2, F3, F4, F5⟩ := name_frame (bv := w.heap.size + 2) (nv := nv) hgrow hBS (.slice (some ⟨g, 0, none⟩) (ns.length + 1) cp)
  have hnb : ∀ b, nv.ownBlock = some b → w.heap.size + 3 ≤ b ∧ b < wq.heap.size := fun b hb => hO.nrow.lt b hb
  refine ⟨⟨⟨F3.trans h.bel.os, F4.trans h.bel.tape, F5.trans h.bel.output, by omega, fun b hb => ?_⟩, ?_, ?_, ⟨_, iv, vs, step_name hO (by omega) hgrow hBS hat ht hown⟩, by omega⟩, F1⟩
  · rw [F1 b (by omega) (fun h => by have := (hnb b h.symm).1; omega) (by omega)]; exact h.bel.block b hb
  · rw [F1 _ (by omega) (fun h => by have := (hnb _ h.symm).1; omega) (by omega)]; exact h.bx
  · rw [F1 _ (by omega) (fun h => by have := (hnb _ h.symm).1; omega) (by omega)]; exact h.bres
theorem any_mem {ns : List (List UInt8)} {nm : List UInt8} : ns.any (· == nm) = true ↔ nm ∈ ns := by
  simp [List.any_eq_true]
theorem any_take {ns : List (List UInt8)} {nm : List UInt8} {p : Nat} (h : p < ns.length) : (ns.take (p + 1)).any (· == nm) = ((ns.take p).any (· == nm) || (ns.getD p [] == nm)) := by
  rw [List.take_succ_eq_append_getElem h, List.any_append, List.getD_eq_getElem?_getD, List.getElem?_eq_getElem h]
  simp
theorem names_cell {w : World} {base : Nat} {ano : Option Addr} {cap : Nat} {ns : List (List UInt8)} (h : w.ownsRow base 9 1 (.slice ano ns.length cap) ns.length (ns.map strW)) : ∀ p, p < ns.length → ∃ g, ano = some ⟨g, 0, none⟩ ∧ w.cell? ⟨g, p, none⟩ = some (strW (ns.getD p [])) ∧ g < w.heap.size := by
  intro p hp
  rcases h.2 with ⟨e, h0⟩ | ⟨g, cp, cur, hv, hbg, hg, hnc, hcm, hcs, htake⟩
  · omega
  · cases hv
    refine ⟨g, rfl, ?_, Own.block_lt hg⟩
    have := h.cellAt p (by omega)
    rw [this, List.getElem?_map, List.getElem?_eq_getElem hp, List.getD_eq_getElem?_getD, List.getElem?_eq_getElem hp]
    rfl

set_option maxHeartbeats 8000000 in
set_option maxRecDepth 100000 in
theorem fit_obj (n : Nat) (hn : n ≤ 14) (ih : FitOk n) (w : World) (k m e : Int) (t : List Int) (is : List RT) (v : Value) (hR : RAt w (n + 1) v (.mk k m e t is)) (hK : pickS k 7 = 6) :
    Calls Tryz.prog 6 #[v, .int .i64 ((16 - (n + 1) : Nat) : Int)] w (FRet w (n + 2) (.mk 7 0 0 [] (fitL (fitJ n) true (is.take 12) [] []).1 (fitL (fitJ n) true (is.take 12) [] []).2)) := by
  obtain ⟨vt, ai, ci, rfl, hk, hm, he, ht, hni, hit⟩ := hR
  have P1 := Lib.hid (fun w => pick_any k 7 w hk (by decide) (by decide))
  rw [hK] at P1
  have hD : ((16 - n : Nat) : Int) = ((16 - (n + 1) : Nat) : Int) + 1 := by omega
  have hD1 : ((16 - (n + 1) : Nat) : Int) < 16 := by omega
  have hD0 : (0 : Int) ≤ ((16 - (n + 1) : Nat) : Int) := by omega
  have IH : Hid (∀ (w' : World) (u : Value) (y : RT), RAt w n u y → Below w.heap.size w w' → Calls Tryz.prog 6 #[u, .int .i64 (((16 - (n + 1) : Nat) : Int) + 1)] w' (FRet w' (n + 1) (fitJ n y))) := fun w' u y hu hb => by rw [← hD]; exact ih w' u y (hu.below hb)
  generalize ((16 - (n + 1) : Nat) : Int) = D at *
  clear hK hD ih hk hm he ht
  have HIT := Lib.hid hit
  have HL : Hid ((is.take 12).length = min is.length 12) := by show _ = _; simp; omega
  obtain ⟨FN, HFN⟩ : ∃ FN, Hid (fitL (fitJ n) true (is.take 12) [] [] = FN) := ⟨_, rfl⟩
  rw [HFN.out]
  obtain ⟨i0, hi0, hz0, hz1, hz2⟩ := info_parts json_info
  obtain ⟨i1, hi1, hx0, hx1, hx2⟩ := info_parts str_info2
  clear hit
  go_enter Tryz.func6, Tryz.ntmps6
  go_wp2_with (go_at_call 13; (with_reducible refine (P1.out _).mono ?_); rintro e1 w1 ⟨rfl, rfl⟩)
  go_loopw [7] (fun i wr => ∃ (q : Nat) (ns : List (List UInt8)) (acc : List J), q ≤ 12 ∧ q ≤ is.length ∧ i = .int .i64 (q : Int) ∧ Hid (fitL (fitJ n) true ((is.take 12).drop q) ns acc = FN) ∧ acc.length ≤ q ∧ ns.length ≤ q ∧ Hid (FI w n 7 #[.int .i64 k, .int .i64 m, .int .i64 e, vt, .slice ai is.length ci] ns acc wr)) (fun i _ => 13 - (intOf i).toNat)
  case atStart => exact ⟨0, [], [], by omega, by omega, rfl, HFN, by simp, by simp, FI.begin⟩
  case round =>
    obtain ⟨q, ns, acc, hq12, hqn, rfl, HF, hal, hnl, HI⟩ := hrel
    have hsz := HI.out.sz
    obtain ⟨xx0, xx1, xx2, xx3, xx4⟩ := five_of HI.out.bx
    by_cases hlt : q < is.length ∧ q < 12
    · obtain ⟨hl1, hl2⟩ := hlt
      have a1 : (q : Int) < (is.length : Int) := by omega
      have a2 : (q : Int) < 12 := by omega
      obtain ⟨b, off, rfl, hbl, hel⟩ := HIT.out (by omega)
      obtain ⟨u, hlies, hu⟩ := hel q hl1
      obtain ⟨k', m', e', ao, tl, c, ai', ni', ci', rfl, htx, htl, hc1, hc2⟩ := hu.form
      obtain ⟨v0, v1, v2, v3, v4⟩ := five_cells (hlies.keep (HI.out.bel.block b hbl))
      have T1 : Hid (∀ w', Below w.heap.size w w' → Calls Tryz.prog 17 #[.slice ao (min (tl : Int) 8).toNat c] w' (Ret (.string ⟨(nameR (is.getD q rt0)).toArray⟩) w')) := fun w' hb => by
        subst htl
        exact text_of _ _ w' ((htx.take 8).below hb)
      have HU : Hid (RAt w n (.agg #[.int .i64 k', .int .i64 m', .int .i64 e', .slice ao tl c, .slice ai' ni' ci']) (is.getD q rt0)) := hu
      have HS : Hid ((is.take 12).drop q = is.getD q rt0 :: (is.take 12).drop (q + 1)) := drop_getD (by rw [HL.out]; omega)
      clear hel hlies htx hu htl
      generalize is.getD q rt0 = y at *
      have HBW : Hid (∀ o, Below w.heap.size w (wr.alloc o)) := fun o => HI.out.bel.alloc HI.out.bel.size o
      have hblr : b < wr.heap.size := by have := HI.out.bel.size; omega
      go_wp2_with (go_at_call 17; (with_reducible refine (T1.out _ (HBW.out _)).mono ?_); rintro e1 w2 ⟨rfl, hb2⟩)
      have HNM : Hid (txtB (nameR y)) := by
        have := textR_lenN 8 y.txt
        show _ ≤ _
        unfold nameR
        omega
      have HF3 : Hid (ns.any (· == nameR y) = true → fitL (fitJ n) true ((is.take 12).drop (q + 1)) ns acc = FN) := fun hin => by
        have h1 := HF.out
        rw [HS.out, fitL, if_pos ⟨rfl, any_mem.1 hin⟩] at h1
        exact h1
      have HF2 : Hid (ns.any (· == nameR y) = false → fitL (fitJ n) true ((is.take 12).drop (q + 1)) (ns ++ [nameR y]) (acc ++ [fitJ n y]) = FN) := fun hin => by
        have h1 := HF.out
        rw [HS.out, fitL, if_neg (fun h => by rw [any_mem.2 h.2] at hin; cases hin), if_pos rfl] at h1
        exact h1
      have hs2 := hb2.size
      simp only [World.size_alloc] at hs2
      have hFI0 := (HI.out.below ((Below.refl _ _).alloc (Nat.le_refl _) _) (Nat.le_refl _)).below hb2 (Nat.le_refl _)
      have hby0 : w2.heap[wr.heap.size]? = some (.cells #[.int .i64 k', .int .i64 m', .int .i64 e', .slice ao tl c, .slice ai' ni' ci'] 31 (0, 0)) := (hb2.block _ (by simp)).trans (heap_alloc_new wr _)
      obtain ⟨nv, iv, vs, hOr⟩ := HI.out.own
      have hO0 := (hOr.below ((Below.refl _ _).alloc (Nat.le_refl _) _) (Nat.le_refl _)).below hb2 (Nat.le_refl _)
      have hnb : ∀ b, nv.ownBlock = some b → w.heap.size + 3 ≤ b ∧ b < wr.heap.size := fun b hb => hOr.nrow.lt b hb
      have HNB := Lib.hid hnb
      clear HI HBW T1 hb2 v0 v1 v2 v3 v4 xx0 xx1 xx2 xx3 xx4 hblr hOr hnb
      obtain ⟨ano, cap0, rfl⟩ := own_slice hO0.nrow
      obtain ⟨y0, y1, y2, y3, y4, y5⟩ := six_of hO0.blk
      have hNC : ∀ p, p < ns.length → ∃ g, ano = some ⟨g, 0, none⟩ ∧ w2.cell? ⟨g, p, none⟩ = some (strW (ns.getD p [])) ∧ g < w2.heap.size := names_cell hO0.nrow
      have HNC := Lib.hid hNC
      have HFI0 := Lib.hid hFI0
      have HO0 := Lib.hid hO0
      have HBY := Lib.hid hby0
      clear hNC hFI0 hO0 hby0
      generalize nameR y = nm at *
      go_loopw [10, 11] (fun a j wx => ∃ (p : Nat), p ≤ ns.length ∧ a = .bool ((ns.take p).any (· == nm)) ∧ j = .int .i64 (p : Int) ∧ w2 = wx) (fun _ j _ => 13 - (intOf j).toNat)
      case atStart => exact ⟨0, by omega, by simp, rfl, rfl⟩
      case round =>
        obtain ⟨p, hp, rfl, rfl, rfl⟩ := hrel
        by_cases hpl : p < ns.length
        · obtain ⟨g, rfl, hc, hgl⟩ := HNC.out p hpl
          have a3 : (p : Int) < (ns.length : Int) := by omega
          have HANY := Lib.hid (any_take hpl (nm := nm))
          generalize (ns.take p).any (· == nm) = bo at *
          generalize ns.getD p [] = xn at *
          unfold strW at hc
          cases bo with
          | false =>
            by_cases heq : (xn == nm) = true
            · go_wp2_with fail
              go_roundw
              case rel => exact ⟨p + 1, by omega, by rw [HANY.out, heq]; rfl, by go_num, trivial⟩
              case measure => simp [intOf]; omega
            · have heq' : (xn == nm) = false := by simpa using heq
              clear heq
              go_wp2_with fail
              go_roundw
              case rel => exact ⟨p + 1, by omega, by rw [HANY.out, heq']; rfl, by go_num, trivial⟩
              case measure => simp [intOf]; omega
          | true =>
            go_wp2_with fail
            go_roundw
            case rel => exact ⟨p + 1, by omega, by rw [HANY.out]; rfl, by go_num, trivial⟩
            case measure => simp [intOf]; omega
        · obtain rfl : p = ns.length := by omega
          rw [List.take_length]
          obtain ⟨bo, hbo⟩ : ∃ bo, ns.any (· == nm) = bo := ⟨_, rfl⟩
          rw [hbo]
          have HBO := Lib.hid hbo
          clear hbo
          cases bo with
          | true =>
            go_wp2_with fail
            go_roundw
            case rel => exact ⟨q + 1, ns, acc, by omega, by omega, by go_num, HF3.out HBO.out, by omega, by omega, HFI0⟩
            case measure => simp [intOf]; omega
          | false =>
            have hnbv : some (w.heap.size + 2) ≠ (Value.slice ano ns.length cap0).ownBlock := fun h => by have := (HNB.out _ h.symm).1; omega
            have hbl0 : w.heap.size + 2 < w2.heap.size := by have := HFI0.out.sz; omega
            have HNV := Lib.hid hnbv
            have yf4 := free_of HO0.out.blk 4
            clear hnbv
            go_wp2_with (at_builtin; (refine wpList_append_lies _ rfl _ _ 24 rfl (w.heap.size + 3) 9 i1 _ 1 16 Tryz.underlying24 hi1 hx0 hx1 hx2 rfl (by omega) _ ns.length (ns.map strW) rfl (HO0.out.nrow.alloc _) ⟨w2.heap.size, 0, none⟩ 1 1 [.string ⟨nm.toArray⟩] rfl rfl (World.news_of_block (cs := #[.string ⟨nm.toArray⟩]) (t := 9) (fr := (0, 0)) (heap_alloc_new _ _)) (by simp [Value.oneCell']) (by omega) (by unfold maxLen; omega) (by omega) (by simp; omega) (w2.heap.size + 1) (by simp) ?_); intro g cp w3 hown hgrow hat hlt; have k4 := (hgrow.cell_far ⟨w.heap.size + 2, 4, none⟩ (by simp; omega) HNV.out).trans ((World.cell?_of_block (w := w2) (a := ⟨w.heap.size + 2, 4, none⟩) (Below.heap_alloc _ _ _ hbl0)).trans y4); have kf := (hgrow.frozen_far ⟨w.heap.size + 2, 4, none⟩ (by simp; omega) HNV.out).trans ((World.frozen?_of_block (w := w2) (a := ⟨w.heap.size + 2, 4, none⟩) (Below.heap_alloc _ _ _ hbl0)).trans yf4))
            obtain ⟨hFI, hFr⟩ := FI.name HFI0.out HO0.out ((Below.refl _ _).alloc (Nat.le_refl _) _) hgrow (hat.imp id (fun h => by omega)) HNM.out hown
            have hbyl := (hFr wr.heap.size (Own.block_lt HBY.out) (fun h => by have := (HNB.out _ h.symm).2; omega) (by omega)).trans HBY.out
            clear hFr hown hgrow hat hlt k4 kf yf4 y0 y1 y2 y3 y4 y5 HFI0 HO0 HNC HBY
            have hbo := HBO.out
            clear HBO
            change Code.wp _ _ _ _ (w3.setCell ⟨w.heap.size + 2, 4, none⟩ _)
            generalize w3.setCell ⟨w.heap.size + 2, 4, none⟩ (.slice (some ⟨g, 0, none⟩) (ns.length + 1) cp) = w6 at *
            have HBB : Hid (Below w.heap.size w w6) := hFI.bel
            obtain ⟨nv6, iv6, vs6, hO⟩ := hFI.own
            obtain ⟨p0, p1, p2, p3, p4⟩ := five_of hbyl
            have hpl6 : wr.heap.size < w6.heap.size := Own.block_lt hbyl
            have HBO2 := Lib.hid hbo
            clear hbo
            have HFI := Lib.hid hFI
            have HO := Lib.hid hO
            have hsz2 := hFI.sz
            have hbl2 : w.heap.size + 2 < w6.heap.size := by omega
            obtain ⟨ao2, cap2, rfl⟩ := own_slice hO.irow
            obtain ⟨y0, y1, y2, y3, y4, y5⟩ := six_of hO.blk
            clear hFI hO hbyl
            have IC := Lib.hid (IH.out w6.drew _ y HU.out HBB.out.drew)
            unfold FRet at IC
            rw [show D + 1 = IntKind.i64.wrap (D + 1) by rw [IntKind.wrap_i64]; omega] at IC
            clear IH HU
            go_region_law (first
              | (go_simp; go_at_call 6; (with_reducible refine (IC.out).mono ?_); rintro e3 w3 ⟨k3, m3, e3', t3, an3, nn3, cn3, ai3, ni3, ci3, rfl, hJ3, hb3⟩; have hb3' : Below w6.heap.size w6 w3 := ((Below.refl _ _).drew).trans hb3; have hs3 := hb3'.size; have hl3 : w.heap.size + 2 < w3.heap.size := (by omega); have hl3' : w.heap.size + 1 + 1 < w3.heap.size := (by omega); have HO3 := Lib.hid (HO.out.below hb3' (Nat.le_refl _)); have y5' := (six_of HO3.out.blk).2.2.2.2.2; have yf := free_of HO3.out.blk 5; have HNE := Lib.hid HO3.out.ine)
              | (refine step_append_lies _ (by rfl) _ _ _ (by rfl) (w.heap.size + 3) 27 i0 _ 6 88 Tryz.underlying25 hi0 hz0 hz1 hz2 rfl (by omega) _ acc.length (vs6.flatMap aggC) (by rfl) (HO3.out.irow.alloc _) ⟨w3.heap.size, 0, none⟩ 1 1 [.int .i64 k3, .int .i64 m3, .int .i64 e3', .string t3, .slice an3 nn3 cn3, .slice ai3 ni3 ci3] (by rfl) (by rfl) (World.news_of_block (cs := #[.int .i64 k3, .int .i64 m3, .int .i64 e3', .string t3, .slice an3 nn3 cn3, .slice ai3 ni3 ci3]) (t := 27) (fr := (0, 0)) (heap_alloc_new _ _)) (by simp [Value.oneCell']) (by omega) (by unfold maxLen; omega) (by omega) (by simp; omega) (w3.heap.size + 1) (by simp) ?_; intro g cp w4 hown hgrow hat hlt; have k5 := (hgrow.cell_far ⟨w.heap.size + 2, 5, none⟩ (by simp; omega) (fun h => HNE.out h.symm)).trans ((World.cell?_of_block (w := w3) (a := ⟨w.heap.size + 2, 5, none⟩) (Below.heap_alloc _ _ _ (by show w.heap.size + 2 < w3.heap.size; omega))).trans y5'); have kf := (hgrow.frozen_far ⟨w.heap.size + 2, 5, none⟩ (by simp; omega) (fun h => HNE.out h.symm)).trans ((World.frozen?_of_block (w := w3) (a := ⟨w.heap.size + 2, 5, none⟩) (Below.heap_alloc _ _ _ (by show w.heap.size + 2 < w3.heap.size; omega))).trans yf)))
            all_goals go_wp2_with fail
            all_goals go_roundw
            all_goals first
              | exact ⟨q + 1, ns ++ [nm], acc ++ [fitJ n y], by omega, by omega, by go_num, HF2.out HBO2.out, by simp; omega, by simp; omega, HFI.out.item HO.out hb3' ((Below.refl _ _).alloc (Nat.le_refl _) _) hgrow (hat.imp id (fun h => by omega)) hown hJ3⟩
              | (simp [intOf]; omega)
    · obtain ⟨a, nn, c, a', nn', c', hblk, hfin⟩ := HI.out.fin ⟨by decide, by decide⟩ (by omega) (by omega)
      obtain ⟨y0, y1, y2, y3, y4, y5⟩ := six_of hblk
      have hres := HI.out.bres
      unfold zero6 at hres
      obtain ⟨z0, z1, z2, z3, z4, z5⟩ := six_of hres
      have g0 := free_of hres 0
      have g1 := free_of hres 1
      have g2 := free_of hres 2
      have g3 := free_of hres 3
      have g4 := free_of hres 4
      have g5 := free_of hres 5
      have HEQ : Hid (FN = (ns, acc)) := by
        have h1 := HF.out
        rw [List.drop_eq_nil_of_le (by rw [HL.out]; omega), fitL] at h1
        exact h1.symm
      have HFIN := Lib.hid hfin
      clear hfin hblk hres HI
      by_cases hl : q < is.length
      · have a1 : (q : Int) < (is.length : Int) := by omega
        obtain rfl : q = 12 := by omega
        go_wp2_with fail
        refine bodyPost_ret (v := .agg #[.int .i64 7, .int .i64 0, .int .i64 0, .string ⟨#[]⟩, .slice a nn c, .slice a' nn' c']) (by simp [results, Tryz.results6, go_sem, z0, z1, z2, z3, z4, z5]) rfl ?_
        rw [HEQ.out]
        exact HFIN.out _ _ _ _ _ _
      · obtain rfl : q = is.length := by omega
        go_wp2_with fail
        refine bodyPost_ret (v := .agg #[.int .i64 7, .int .i64 0, .int .i64 0, .string ⟨#[]⟩, .slice a nn c, .slice a' nn' c']) (by simp [results, Tryz.results6, go_sem, z0, z1, z2, z3, z4, z5]) rfl ?_
        rw [HEQ.out]
        exact HFIN.out _ _ _ _ _ _
end Go.Proofs.YtmlpefpjemiccaaGreatDoor.Js

/- The contract of Fit. -/
set_option linter.unusedVariables false
set_option linter.unusedSimpArgs false
namespace Go.Proofs.YtmlpefpjemiccaaGreatDoor.Js
open Go.RowKit Lex
open Quo (pickS pickS_nonneg pickS_lt IntsAt textR)

theorem fit_ok : ∀ n, n ≤ 15 → FitOk n
  | 0, _ => fun w v r hR => by
    obtain ⟨k, m, e, t, is⟩ := r
    obtain ⟨vt, ai, ci, rfl, hk, hm, he, ht, hni⟩ := hR
    have h0 := pickS_nonneg (c := k) (n := 7) (by decide)
    have h1 := pickS_lt (c := k) (n := 7) (by decide)
    rw [fitJ]
    by_cases c4 : pickS k 7 = 3
    · rw [if_pos (by omega)]; exact fit_num _ _ _ _ _ _ _ _ 0 w hk hm he c4
    · rw [if_neg (by omega)]
      by_cases c5 : pickS k 7 = 4
      · rw [if_pos (by omega)]; exact fit_text _ _ _ _ _ _ _ _ _ 0 w hk ht c5
      · rw [if_neg (by omega)]
        by_cases c6 : pickS k 7 = 5 ∨ pickS k 7 = 6
        · exact fit_empty _ _ _ _ _ _ _ 0 w hk hni c6
        · exact fit_kind _ _ _ _ _ _ _ _ 0 w hk (by omega)
  | n + 1, hn => fun w v r hR => by
    obtain ⟨k, m, e, t, is⟩ := r
    have hR' := hR
    obtain ⟨vt, ai, ci, rfl, hk, hm, he, ht, hni, _⟩ := hR'
    have h0 := pickS_nonneg (c := k) (n := 7) (by decide)
    have h1 := pickS_lt (c := k) (n := 7) (by decide)
    rw [fitJ]
    by_cases c4 : pickS k 7 = 3
    · rw [if_pos (by omega)]; exact fit_num _ _ _ _ _ _ _ _ (n + 1) w hk hm he c4
    · rw [if_neg (by omega)]
      by_cases c5 : pickS k 7 = 4
      · rw [if_pos (by omega)]; exact fit_text _ _ _ _ _ _ _ _ _ (n + 1) w hk ht c5
      · rw [if_neg (by omega)]
        by_cases c6 : pickS k 7 = 5
        · rw [if_pos (by omega), c6]
          exact fit_arr n (by omega) (fit_ok n (by omega)) w k m e t is _ hR c6
        · by_cases c7 : pickS k 7 = 6
          · rw [if_pos (by omega), c7]
            exact fit_obj n (by omega) (fit_ok n (by omega)) w k m e t is _ hR c7
          · rw [if_neg (by omega)]
            exact fit_kind _ _ _ _ _ _ _ _ (n + 1) w hk (by omega)
/-- Fit at a depth. -/
theorem fit_at (n : Nat) (hn : n ≤ 15) (D : Int) (hD : ((16 - n : Nat) : Int) = D) (w : World) (v : Value) (r : RT) (h : RAt w n v r) :
    Calls Tryz.prog 6 #[v, .int .i64 D] w fun e w' => ∃ k m e1 t an nn cn ai ni ci, e = .returned (.agg #[.int .i64 k, .int .i64 m, .int .i64 e1, .string t, .slice an nn cn, .slice ai ni ci]) ∧
      JA Any w' (.agg #[.int .i64 k, .int .i64 m, .int .i64 e1, .string t, .slice an nn cn, .slice ai ni ci]) (fitJ n r) ∧ Below w.heap.size w w' := by
  subst hD
  refine (fit_ok n hn w v r h).mono ?_
  rintro e w' ⟨k, m, e1, t, an, nn, cn, ai, ni, ci, rfl, hJ, hb⟩
  exact ⟨k, m, e1, t, an, nn, cn, ai, ni, ci, rfl, ⟨_, hJ.any⟩, hb⟩
theorem fit_printed (n : Nat) (r : RT) (hn : n ≤ 15) (hs : rsz r ≤ 1048576) : rightJ 1 (fitJ n r) = true ∧ printS (fitJ n r) = printJ (fitJ n r) ∧ (printJ (fitJ n r)).length ≤ 209715200 := by
  have h := fit_right n 1 r (by omega)
  have := fit_len n r
  exact ⟨h, by unfold printS; rw [h]; rfl, by omega⟩
end Go.Proofs.YtmlpefpjemiccaaGreatDoor.Js
