import Derived.Test.YthmblgfcjbiomaaRe
/- The least costs as a list, the cheapest way, and what is laid on the way to both: plain lists. -/
set_option linter.unusedVariables false
set_option linter.unusedSimpArgs false
namespace Go.Proofs.Ythmblgfcjbiomaa.Rt
open Ly

theorem BF.ends {n : Int} {es : List Ed} {bl : List Int} {b : Int} (hr : RightL n es) : ∀ (m : Nat) (o : List Int), left o = m → BF n es bl b o → ∃ p : List Int, p.length = n.toNat ∧ IsFar n es bl b (gi p) ∧ ∀ x ∈ p, x ≤ 39000 := by
  intro m
  induction m using Nat.strongRecOn with
  | ind m ih =>
    intro o hm h
    by_cases hx : ∃ k, k < es.length ∧ lessB bl o (ate es k) = true
    · obtain ⟨k, hk, hl⟩ := hx
      have h2 := h.less hr hk hl
      exact ih _ (by omega) _ rfl h2.1
    · exact ⟨o, h.len, h.far fun k hk => by
        cases e : lessB bl o (ate es k) with
        | false => rfl
        | true => exact absurd ⟨k, hk, e⟩ hx, h.bound hr⟩
theorem exists_far {n : Int} {es : List Ed} {bl : List Int} {b : Int} (hr : RightL n es) (b0 : 0 ≤ b) (b1 : b < n) : ∃ p : List Int, p.length = n.toNat ∧ IsFar n es bl b (gi p) ∧ ∀ x ∈ p, x ≤ 39000 := BF.ends hr _ _ rfl (BF.start b0 b1)
open Classical in
noncomputable def farL (n : Int) (es : List Ed) (bl : List Int) (b : Int) : List Int := if h : ∃ p : List Int, p.length = n.toNat ∧ IsFar n es bl b (gi p) ∧ ∀ x ∈ p, x ≤ 39000 then h.choose else []
theorem farL_spec {n : Int} {es : List Ed} {bl : List Int} {b : Int} (hr : RightL n es) (b0 : 0 ≤ b) (b1 : b < n) : (farL n es bl b).length = n.toNat ∧ IsFar n es bl b (gi (farL n es bl b)) ∧ ∀ x ∈ farL n es bl b, x ≤ 39000 := by
  have h := exists_far (bl := bl) hr b0 b1
  unfold farL
  rw [dif_pos h]
  exact h.choose_spec
theorem farL_le {n : Int} {es : List Ed} {bl : List Int} {b : Int} (hr : RightL n es) (b0 : 0 ≤ b) (b1 : b < n) : ∀ v, 0 ≤ v → v < n → gi (farL n es bl b) v ≤ 39000 := fun v v0 v1 => (farL_spec hr b0 b1).2.2 _ (gi_mem (by rw [(farL_spec hr b0 b1).1]; omega))
/-- Nothing else is Far. -/
theorem farL_eq {n : Int} {es : List Ed} {bl : List Int} {b : Int} (hr : RightL n es) (b0 : 0 ≤ b) (b1 : b < n) {o : List Int} (hl : o.length = n.toNat) (h : IsFar n es bl b (gi o)) : o = farL n es bl b :=
  far_uniq hl (farL_spec hr b0 b1).1 h (farL_spec hr b0 b1).2.1
theorem farL_eq2 {n : Int} {es : List Ed} {bl : List Int} {b : Int} (hr : RightL n es) (b0 : 0 ≤ b) (b1 : b < n) {o : List Int} (hl : o.length = n.toNat) (h : ∀ v, 0 ≤ v → v < n → gi o v = gi (farL n es bl b) v) : o = farL n es bl b := by
  have hs := (farL_spec (bl := bl) hr b0 b1).1
  refine List.ext_getElem (by omega) fun i h1 h2 => ?_
  have := h i (by omega) (by omega)
  rw [gi_at (by simpa using h1), gi_at (by simpa using h2)] at this
  simpa using this
noncomputable def farS (n : Int) (es : List Ed) (bl : List Int) (b : Int) : List Int := if rightB n es && nodeB n b then farL n es bl b else []
theorem farS_yes {n : Int} {es : List Ed} {bl : List Int} {b : Int} (hr : RightL n es) (b0 : 0 ≤ b) (b1 : b < n) : farS n es bl b = farL n es bl b := by
  unfold farS
  rw [rightB_true hr, if_pos (by simp [nodeB, b0, b1])]
theorem farS_no {n : Int} {es : List Ed} {bl : List Int} {b : Int} (h : (rightB n es && nodeB n b) = false) : farS n es bl b = [] := by
  unfold farS
  rw [h]
  rfl

/-- What Far has laid. -/
def accF (es : List Ed) (o : List Int) (pre : List (Nat × Int)) : List Int := pre.foldl (fun o y => o.set (ate es y.1).1.toNat y.2) o
theorem accF_snoc (es : List Ed) (o : List Int) (pre : List (Nat × Int)) (k : Nat) (c : Int) : accF es o (pre ++ [(k, c)]) = (accF es o pre).set (ate es k).1.toNat c := by simp [accF]
theorem accF_len (es : List Ed) : ∀ (pre : List (Nat × Int)) (o : List Int), (accF es o pre).length = o.length
  | [], o => rfl
  | y :: r, o => by
    show (accF es (o.set _ _) r).length = _
    rw [accF_len es r, List.length_set]
def startF (n b : Int) : List Int := (List.replicate n.toNat (-1 : Int)).set b.toNat 0
theorem startF_len (n b : Int) : (startF n b).length = n.toNat := by simp [startF]
theorem accF_gi {n : Int} {es : List Ed} {bl : List Int} {b : Int} {d : Int → Int} {pre : List (Nat × Int)} (h : Em es bl b d pre) (hr : RightL n es) (hd : IsFar n es bl b d) (b0 : 0 ≤ b) (b1 : b < n) :
    ∀ v, 0 ≤ v → v < n → (Dn es b pre v → gi (accF es (startF n b) pre) v = d v) ∧ (¬ Dn es b pre v → gi (accF es (startF n b) pre) v = -1) := by
  induction h with
  | nil =>
    intro v v0 v1
    show (_ → gi (startF n b) v = _) ∧ (_ → gi (startF n b) v = _)
    unfold startF
    rw [gi_start b0 b1 v0]
    refine ⟨fun h => ?_, fun h => ?_⟩
    · rcases h with rfl | ⟨y, hy, _⟩
      · rw [if_pos rfl, hd.here]
      · simp at hy
    · rw [if_neg fun e => h (.inl e)]
  | @snoc pre k c h hk hn hf hc ht ih =>
    intro v v0 v1
    obtain ⟨⟨f0, f1⟩, _⟩ := hr.at hk
    rw [accF_snoc, gi_set f0 (by rw [accF_len, startF_len]; omega) v0]
    by_cases e : v = (ate es k).1
    · rw [if_pos e]
      exact ⟨fun _ => by rw [e, hc], fun x => absurd (Dn.snoc.2 (.inr e)) x⟩
    · rw [if_neg e]
      exact ⟨fun x => (ih v v0 v1).1 ((Dn.snoc.1 x).resolve_right e), fun x => (ih v v0 v1).2 fun y => x (Dn.snoc.2 (.inl y))⟩
/-- When all is told what is laid is Far. -/
theorem accF_far {n : Int} {es : List Ed} {bl : List Int} {b : Int} {xs : List (Nat × Int)} (h : Em es bl b (gi (farL n es bl b)) xs) (hr : RightL n es) (b0 : 0 ≤ b) (b1 : b < n) (hx : ∀ v, 0 ≤ v → v < n → 0 ≤ gi (farL n es bl b) v → Dn es b xs v) : accF es (startF n b) xs = farL n es bl b := by
  have hs := farL_spec (bl := bl) hr b0 b1
  refine farL_eq2 hr b0 b1 (by rw [accF_len, startF_len]) fun v v0 v1 => ?_
  have h1 := accF_gi h hr hs.2.1 b0 b1 v v0 v1
  by_cases e : Dn es b xs v
  · exact h1.1 e
  · rw [h1.2 e]
    have h2 := hs.2.1.low v v0 v1
    have h3 : ¬ 0 ≤ gi (farL n es bl b) v := fun x => e (hx v v0 v1 x)
    omega

/-- What Route has laid: the edge over which one goes on. -/
def accO (es : List Ed) (o : List Int) (pre : List (Nat × Int)) : List Int := pre.foldl (fun o y => o.set (ate es y.1).1.toNat (y.1 : Int)) o
theorem accO_snoc (es : List Ed) (o : List Int) (pre : List (Nat × Int)) (k : Nat) (c : Int) : accO es o (pre ++ [(k, c)]) = (accO es o pre).set (ate es k).1.toNat (k : Int) := by simp [accO]
theorem accO_len (es : List Ed) : ∀ (pre : List (Nat × Int)) (o : List Int), (accO es o pre).length = o.length
  | [], o => rfl
  | y :: r, o => by
    show (accO es (o.set _ _) r).length = _
    rw [accO_len es r, List.length_set]
theorem ati_set {l : List Int} {i : Nat} (h : i < l.length) (x : Int) (j : Nat) : ati (l.set i x) j = if j = i then x else ati l j := by
  unfold ati
  rw [List.getD_eq_getElem?_getD, List.getElem?_set]
  by_cases e : i = j
  · subst e; simp [h]
  · rw [if_neg e, if_neg (fun x => e x.symm), List.getD_eq_getElem?_getD]
theorem accO_at {n : Int} {es : List Ed} {bl : List Int} {b : Int} {d : Int → Int} {pre : List (Nat × Int)} (h : Em es bl b d pre) (hr : RightL n es) {o : List Int} (ho : o.length = 40) : ∀ y ∈ pre, ati (accO es o pre) (ate es y.1).1.toNat = (y.1 : Int) := by
  induction h with
  | nil => simp
  | @snoc pre k c h hk hn hf hc ht ih =>
    intro y hy
    obtain ⟨⟨f0, f1⟩, _⟩ := hr.at hk
    have := hr.2.1
    rw [accO_snoc, ati_set (by rw [accO_len, ho]; omega)]
    rcases List.mem_append.1 hy with hy | hy
    · obtain ⟨⟨g0, g1⟩, _⟩ := hr.at (h.mem y hy).1
      rw [if_neg fun e => hn (.inr ⟨y, hy, by omega⟩)]
      exact ih y hy
    · rw [List.mem_singleton] at hy
      subst hy
      rw [if_pos rfl]
/-- One step of the way. -/
theorem way_step {n : Int} {es : List Ed} {bl : List Int} {b : Int} {d : Int → Int} {pre : List (Nat × Int)} (h : Em es bl b d pre) (hr : RightL n es) (hd : IsFar n es bl b d) {o : List Int} (ho : o.length = 40) {v : Int} (v0 : 0 ≤ v) (v1 : v < n) (hv : Dn es b pre v) (hb : v ≠ b) :
    ∃ k : Nat, ati (accO es o pre) v.toNat = (k : Int) ∧ k < es.length ∧ routeF es bl b d v = k :: routeF es bl b d (ate es k).2.1 ∧ d (ate es k).2.1 < d v ∧ 0 ≤ d (ate es k).2.1 ∧ 0 ≤ (ate es k).2.1 ∧ (ate es k).2.1 < n ∧ Dn es b pre (ate es k).2.1 := by
  rcases hv with e | ⟨y, hy, rfl⟩
  · exact absurd e hb
  · obtain ⟨h1, h2, h3, h4, h5⟩ := h.mem y hy
    have h6 := h.pos hr hd (.inr ⟨y, hy, rfl⟩)
    obtain ⟨g1, g2, g3, g4, g5⟩ := hd.step hr v0 v1 h6 h2 h3 h1 (h.on hy)
    exact ⟨y.1, accO_at h hr ho y hy, h1, g1, g3, g2, g4, g5, h5⟩
def toI (ks : List Nat) : List Int := ks.map fun (k : Nat) => (k : Int)
/-- What Route answers. -/
noncomputable def routeS (n : Int) (es : List Ed) (bl : List Int) (a b : Int) : List Int × Int :=
  if rightB n es && (nodeB n a && nodeB n b) then (if gi (farL n es bl b) a < 0 then ([], 120) else (toI (routeF es bl b (gi (farL n es bl b)) a), 0)) else ([], 1)
theorem routeS_arg {n : Int} {es : List Ed} {bl : List Int} {a b : Int} (h : (rightB n es && (nodeB n a && nodeB n b)) = false) : routeS n es bl a b = ([], 1) := by
  unfold routeS
  rw [h]
  rfl
theorem routeS_none {n : Int} {es : List Ed} {bl : List Int} {a b : Int} (h : (rightB n es && (nodeB n a && nodeB n b)) = true) (hd : gi (farL n es bl b) a < 0) : routeS n es bl a b = ([], 120) := by
  unfold routeS
  rw [h, if_pos rfl, if_pos hd]
theorem routeS_way {n : Int} {es : List Ed} {bl : List Int} {a b : Int} (h : (rightB n es && (nodeB n a && nodeB n b)) = true) (hd : 0 ≤ gi (farL n es bl b) a) : routeS n es bl a b = (toI (routeF es bl b (gi (farL n es bl b)) a), 0) := by
  unfold routeS
  rw [h, if_pos rfl, if_neg (by omega)]
theorem routeL_len (es : List Ed) (bl : List Int) (b : Int) (d : Int → Int) : ∀ (f : Nat) (v : Int), (routeL es bl b d f v).length ≤ f
  | 0, v => by simp [routeL]
  | f + 1, v => by
    rw [routeL]
    split
    · simp
    · split
      · rename_i k _
        have := routeL_len es bl b d f (ate es k).2.1
        simp only [List.length_cons]
        omega
      · simp
theorem routeF_len {n : Int} {es : List Ed} {bl : List Int} {b : Int} (hr : RightL n es) (b0 : 0 ≤ b) (b1 : b < n) {v : Int} (v0 : 0 ≤ v) (v1 : v < n) : (routeF es bl b (gi (farL n es bl b)) v).length ≤ 39000 := by
  have h1 := routeL_len es bl b (gi (farL n es bl b)) (gi (farL n es bl b) v).toNat v
  have h2 := farL_le (bl := bl) hr b0 b1 v v0 v1
  unfold routeF
  omega
theorem nodeB_iff' {n a : Int} : nodeB n a = true ↔ 0 ≤ a ∧ a < n := by simp [nodeB]
/-- What Tour answers. -/
noncomputable def tourS (n : Int) (es : List Ed) (bl : List Int) (a b c : Int) : List Int × Int :=
  if (routeS n es bl a b).2 = 0 then (if (routeS n es bl b c).2 = 0 then ((routeS n es bl a b).1 ++ (routeS n es bl b c).1, 0) else ([], (routeS n es bl b c).2)) else ([], (routeS n es bl a b).2)
theorem routeS_cases (n : Int) (es : List Ed) (bl : List Int) (a b : Int) : ((rightB n es && (nodeB n a && nodeB n b)) = false ∧ routeS n es bl a b = ([], 1)) ∨ ((rightB n es && (nodeB n a && nodeB n b)) = true ∧ gi (farL n es bl b) a < 0 ∧ routeS n es bl a b = ([], 120)) ∨ ((rightB n es && (nodeB n a && nodeB n b)) = true ∧ 0 ≤ gi (farL n es bl b) a ∧ routeS n es bl a b = (toI (routeF es bl b (gi (farL n es bl b)) a), 0)) := by
  cases h : rightB n es && (nodeB n a && nodeB n b) with
  | false => exact .inl ⟨rfl, routeS_arg h⟩
  | true =>
    rcases Int.lt_or_le (gi (farL n es bl b) a) 0 with hd | hd
    · exact .inr (.inl ⟨rfl, hd, routeS_none h hd⟩)
    · exact .inr (.inr ⟨rfl, hd, routeS_way h hd⟩)
theorem routeS_len (n : Int) (es : List Ed) (bl : List Int) (a b : Int) : (routeS n es bl a b).1.length ≤ 39000 := by
  rcases routeS_cases n es bl a b with ⟨_, h⟩ | ⟨_, _, h⟩ | ⟨h, _, h2⟩
  · rw [h]; simp
  · rw [h]; simp
  · rw [h2]
    simp only [Bool.and_eq_true, nodeB_iff', rightB_iff] at h
    simp only [toI, List.length_map]
    exact routeF_len h.1 h.2.2.1 h.2.2.2 h.2.1.1 h.2.1.2
end Go.Proofs.Ythmblgfcjbiomaa.Rt
