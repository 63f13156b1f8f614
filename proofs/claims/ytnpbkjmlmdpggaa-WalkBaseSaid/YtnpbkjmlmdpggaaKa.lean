import Derived.Test.YtnpbkjmlmdpggaaKo
/- Layer 13, plain: an order over a path; its base. -/
set_option linter.unusedVariables false
set_option linter.unusedSimpArgs false
namespace Go.Proofs.Ytnpbkjmlmdpggaa.Wk
open Od Ly

def pi (p : List Int) (i : Nat) : Int := p.getD i 0
/-- The stops and the ways of a path, so many. -/
def ndL (p : List Int) (q r : Int) (n : Nat) : List St := (List.range n).map fun (j : Nat) => ⟨pi p (2 * j), q + 2 * (j : Int), decide ((j : Int) < r)⟩
def edL (p : List Int) (q r : Int) (n : Nat) : List St := (List.range n).map fun (j : Nat) => ⟨pi p (2 * j + 1) - 1000, q + 2 * (j : Int) + 1, decide ((j : Int) + 1 < r)⟩
theorem ndL_len (p : List Int) (q r : Int) (n : Nat) : (ndL p q r n).length = n := by simp [ndL]
theorem edL_len (p : List Int) (q r : Int) (n : Nat) : (edL p q r n).length = n := by simp [edL]
theorem ndL_succ (p : List Int) (q r : Int) (n : Nat) : ndL p q r (n + 1) = ndL p q r n ++ [⟨pi p (2 * n), q + 2 * (n : Int), decide ((n : Int) < r)⟩] := by simp [ndL, List.range_succ]
theorem edL_succ (p : List Int) (q r : Int) (n : Nat) : edL p q r (n + 1) = edL p q r n ++ [⟨pi p (2 * n + 1) - 1000, q + 2 * (n : Int) + 1, decide ((n : Int) + 1 < r)⟩] := by simp [edL, List.range_succ]
theorem ndL_at (p : List Int) (q r : Int) {n j : Nat} (h : j < n) : (ndL p q r n).getD j st0 = ⟨pi p (2 * j), q + 2 * (j : Int), decide ((j : Int) < r)⟩ := by simp [ndL, h]
theorem edL_at (p : List Int) (q r : Int) {n j : Nat} (h : j < n) : (edL p q r n).getD j st0 = ⟨pi p (2 * j + 1) - 1000, q + 2 * (j : Int) + 1, decide ((j : Int) + 1 < r)⟩ := by simp [edL, h]
/-- Whether elements are a path. -/
def elB (i : Nat) (x : Int) : Bool := if i % 2 = 0 then decide (0 ≤ x) && decide (x < 1000) else decide (1000 ≤ x)
def pathB (p : List Int) : Bool := decide (p.length % 2 = 1) && (List.range p.length).all fun i => elB i (pi p i)
theorem pathB_iff {p : List Int} : pathB p = true ↔ p.length % 2 = 1 ∧ ∀ i, i < p.length → elB i (pi p i) = true := by simp [pathB]
/-- The order over a path, as it is put together. -/
def overO (h : Int) (v : List UInt8) (o u : Int) (p : List Int) (q r : Int) : O := ⟨h, v, o, u, ndL p q r (min ((p.length + 1) / 2) 64), edL p q r (min (p.length / 2) 63)⟩
/-- What Order answers. -/
def orderS (nm : List UInt8 → Bool) (h : Int) (v : List UInt8) (o u : Int) (p : List Int) (q r : Int) : O × Bool :=
  if pathB p && rightO nm (overO h v o u p q r) then (overO h v o u p q r, true) else (o0, false)
theorem nodesB_range (f : Nat → St) : ∀ (n s : Nat) (q : Int) (prev : Bool), (∀ j, s ≤ j → j < s + n → numB (f j).id = true ∧ numB (f j).seq = true ∧ (f j).seq = q + 2 * ((j : Int) - s)) → (0 < n → (f s).rel = true → prev = true) → (∀ j, s ≤ j → j + 1 < s + n → (f (j + 1)).rel = true → (f j).rel = true) → nodesB q prev ((List.range' s n).map f) = true
  | 0, s, q, prev, _, _, _ => by simp [nodesB]
  | n + 1, s, q, prev, h1, h2, h3 => by
    rw [List.range'_succ, List.map_cons, nodesB]
    obtain ⟨g1, g2, g3⟩ := h1 s (Nat.le_refl _) (by omega)
    have ih := nodesB_range f n (s + 1) (q + 2) (f s).rel (fun j a b => by
      obtain ⟨k1, k2, k3⟩ := h1 j (by omega) (by omega)
      exact ⟨k1, k2, by rw [k3]; omega⟩) (fun hn hr => h3 s (Nat.le_refl _) (by omega) hr) (fun j a b => h3 j (by omega) (by omega))
    rw [ih, g1, g2, g3]
    have h4 := h2 (by omega)
    cases hr : (f s).rel with
    | false => simp
    | true => simp [h4 hr]
theorem edgesB_range (f g : Nat → St) : ∀ (n s : Nat), (∀ j, s ≤ j → j < s + n → numB (g j).id = true ∧ numB (g j).seq = true ∧ (g j).seq = (f j).seq + 1 ∧ (g j).rel = (f (j + 1)).rel) → edgesB ((List.range' s n).map g) ((List.range' s (n + 1)).map f) = true
  | 0, s, _ => by simp [edgesB]
  | n + 1, s, h => by
    obtain ⟨g1, g2, g3, g4⟩ := h s (Nat.le_refl _) (by omega)
    have ih := edgesB_range f g n (s + 1) (fun j a b => h j (by omega) (by omega))
    rw [show n + 1 + 1 = (n + 1) + 1 from rfl, List.range'_succ, List.range'_succ, List.map_cons, List.map_cons]
    rw [List.range'_succ, List.map_cons] at ih ⊢
    rw [edgesB, ih, g1, g2, g3, g4]
    simp
/-- Whether an order over a path is right. -/
theorem over_right {nm : List UInt8 → Bool} {h : Int} {v : List UInt8} {o u : Int} {p : List Int} {q r : Int} (hv : nm v = true) (hh : numB h = true) (ho : numB o = true) (hu : numB u = true) (hl : p.length % 2 = 1) (h2 : q % 2 = 0) (hr : 1 ≤ r)
    (hn : ∀ j, j < min ((p.length + 1) / 2) 64 → numB (pi p (2 * j)) = true) (he : ∀ j, j < min (p.length / 2) 63 → numB (pi p (2 * j + 1) - 1000) = true) (q0 : 0 ≤ q) (q1 : q ≤ 999999000) : rightO nm (overO h v o u p q r) = true := by
  obtain ⟨m, hm⟩ : ∃ m, p.length = 2 * m + 1 := ⟨p.length / 2, by omega⟩
  have e1 : min ((p.length + 1) / 2) 64 = min m 63 + 1 := by omega
  have e2 : min (p.length / 2) 63 = min m 63 := by omega
  unfold rightO overO
  dsimp only
  rw [e1] at hn ⊢
  rw [e2] at he ⊢
  have hm63 : min m 63 ≤ 63 := by omega
  generalize min m 63 = k at *
  have hd : (ndL p q r (k + 1)).headD st0 = ⟨pi p 0, q, decide (0 < r)⟩ := by simp [ndL, List.range_succ_eq_map]
  have hnd : nodesB q true (ndL p q r (k + 1)) = true := by
    unfold ndL
    rw [List.range_eq_range']
    refine nodesB_range _ _ _ _ _ (fun j a b => ⟨hn j (by omega), ?_, by dsimp only; omega⟩) (fun _ _ => rfl) (fun j a b => ?_)
    · simp [numB]; omega
    · dsimp only
      simp only [decide_eq_true_eq]
      omega
  have hed : edgesB (edL p q r k) (ndL p q r (k + 1)) = true := by
    unfold edL ndL
    rw [List.range_eq_range', List.range_eq_range']
    refine edgesB_range _ _ _ _ (fun j a b => ⟨he j (by omega), ?_, rfl, ?_⟩)
    · simp [numB]; omega
    · dsimp only
      rw [show (((j + 1 : Nat) : Nat) : Int) = (j : Int) + 1 by omega]
  rw [hd, ndL_len, edL_len, hv, hh, ho, hu]
  dsimp only
  rw [hnd, hed]
  simp
  omega
/-- The elements of k nodes of an order, from its first one on, and of the edges between. -/
def baseN (ns es : List St) : Nat → List Int
  | 0 => []
  | 1 => [(ns.getD 0 st0).id]
  | k + 2 => baseN ns es (k + 1) ++ [1000 + (es.getD k st0).id, (ns.getD (k + 1) st0).id]
theorem baseN_len (ns es : List St) : ∀ k, (baseN ns es k).length = 2 * k - 1
  | 0 => rfl
  | 1 => rfl
  | k + 2 => by rw [baseN, List.length_append, baseN_len ns es (k + 1)]; simp; omega
/-- How many nodes ahead are released. -/
def relK (ns : List St) : Nat := (ns.takeWhile (·.rel)).length
theorem relK_le (ns : List St) : relK ns ≤ ns.length := (List.takeWhile_sublist _).length_le
/-- What Base answers. -/
def baseS (nm : List UInt8 → Bool) (x : O) : List Int := if rightO nm x then baseN x.ns x.es (relK x.ns) else []
theorem take_step {p : List Int} {k : Nat} (h : 2 * k + 2 < p.length) : p.take (2 * k + 1) ++ [pi p (2 * k + 1), pi p (2 * k + 2)] = p.take (2 * k + 3) := by
  have h1 : p.take (2 * k + 2 + 1) = p.take (2 * k + 2) ++ [p[2 * k + 2]] := List.take_succ_eq_append_getElem (by omega)
  have h2 : p.take (2 * k + 1 + 1) = p.take (2 * k + 1) ++ [p[2 * k + 1]] := List.take_succ_eq_append_getElem (by omega)
  have h3 : p.take (2 * k + 3) = p.take (2 * k + 1) ++ [p[2 * k + 1]] ++ [p[2 * k + 2]] := h1.trans (congrArg (· ++ [p[2 * k + 2]]) h2)
  have e1 : pi p (2 * k + 1) = p[2 * k + 1] := by simp [pi, List.getD_eq_getElem?_getD, List.getElem?_eq_getElem (show 2 * k + 1 < p.length by omega)]
  have e2 : pi p (2 * k + 2) = p[2 * k + 2] := by simp [pi, List.getD_eq_getElem?_getD, List.getElem?_eq_getElem h]
  rw [h3, e1, e2, List.append_assoc]
  rfl
/-- The base of an order over a path is the path's beginning. -/
theorem baseN_over {p : List Int} {q r : Int} {n m : Nat} (hn : n = m + 1) : ∀ {k : Nat}, 1 ≤ k → k ≤ n → 2 * k ≤ p.length + 1 → baseN (ndL p q r n) (edL p q r m) k = p.take (2 * k - 1)
  | 0, h, _, _ => by omega
  | 1, _, h1, h2 => by
    have : 0 < p.length := by omega
    rw [baseN, ndL_at p q r (by omega)]
    rcases p with _ | ⟨a, t⟩
    · simp at this
    · simp [pi]
  | k + 2, _, h1, h2 => by
    rw [baseN, baseN_over hn (by omega) (by omega) (by omega), ndL_at p q r (by omega), edL_at p q r (by omega)]
    dsimp only
    rw [show 2 * (k + 1) - 1 = 2 * k + 1 by omega, show 2 * (k + 2) - 1 = 2 * k + 3 by omega, show (1000 : Int) + (pi p (2 * k + 1) - 1000) = pi p (2 * k + 1) by omega]
    exact take_step (by omega)
theorem takeWhile_range (f : Nat → St) (r : Nat) (hf : ∀ j, (f j).rel = decide (j < r)) : ∀ (n s : Nat), s ≤ r → (((List.range' s n).map f).takeWhile (·.rel)).length = min n (r - s)
  | 0, s, _ => by simp
  | n + 1, s, hs => by
    rw [List.range'_succ, List.map_cons, List.takeWhile_cons, hf s]
    by_cases e : s < r
    · rw [decide_eq_true e, if_pos rfl, List.length_cons, takeWhile_range f r hf n (s + 1) (by omega)]
      omega
    · rw [decide_eq_false e, if_neg (by simp), List.length_nil]
      omega
theorem relK_nd (p : List Int) (q : Int) (r n : Nat) : relK (ndL p q r n) = min n r := by
  unfold relK ndL
  rw [List.range_eq_range', takeWhile_range _ r (fun j => by dsimp only; simp) n 0 (by omega)]
  rfl
/-- What Stops answers. -/
def stopsL (p : List Int) : List Int := (List.range ((p.length + 1) / 2)).map fun j => pi p (2 * j)
theorem stopsL_len (p : List Int) : (stopsL p).length = (p.length + 1) / 2 := by simp [stopsL]
end Go.Proofs.Ytnpbkjmlmdpggaa.Wk
