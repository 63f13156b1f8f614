import Derived.Test.YtcpggmdiojaalaaGreatDoorMX
import Derived.Test.YtcpggmdiojaalaaGreatDoorMOd
/- Two rows, each copied from a part of old memory and grown by another part, Make of both, and its box: a region that draws its order, by an invariant over which operations have run. -/
set_option linter.unusedVariables false
set_option linter.unusedSimpArgs false
namespace Go.Proofs.YtcpggmdiojaalaaGreatDoor.Js
open Go.RowKit Lex

/-- What two rows that grow are, each in two states. -/
structure RX where
  n0 : Nat
  n1 : Nat
  xs0 : List Value
  xs1 : List Value
  k0 : Nat
  k1 : Nat
  ys0 : List Value
  ys1 : List Value
def osX (r : RX) (la lb lc ld le : Bool) (va vb vc vd ve : Value) : List Ob :=
  [⟨la, if lb = true then vb else va, 9, 1, if lb = true then r.n1 else r.n0, if lb = true then r.xs1 else r.xs0⟩,
   ⟨lc, if ld = true then vd else vc, 45, 6, if ld = true then r.k1 else r.k0, if ld = true then r.ys1 else r.ys0⟩,
   ⟨le, rowOf ve, 45, 6, 1, zeroL⟩]
/-- A value that Make made. -/
def MX (le : Bool) (ve : Value) (jA : J) (z : Value) (w : World) : Prop :=
  ∃ k m e t an nn cn ai ni ci, z = .agg #[.int .i64 k, .int .i64 m, .int .i64 e, .string t, .slice an nn cn, .slice ai ni ci] ∧ JAt (fun b => le = true → ve ≠ .pointer (some ⟨b, 0, none⟩)) w 16 z jA
/-- What lies between the operations: a, b are the first row's, c, d the second one's, m is Make, e the box, s the store into it. -/
structure FX (a b c d m e s : Nat) (wS : World) (cs : List (Option Value)) (r : RX) (jA : J) (zs : List Value) (L : Nat → Bool) (w : World) : Prop where
  len : zs.length = s
  bel : Below wS.heap.size wS w
  cst : ∀ k v z, cs[k]? = some (some v) → zs[k]? = some z → L k = true → z = v
  pb : L b = true → L a = true
  pd : L d = true → L c = true
  pm : L m = true → L b = true ∧ L d = true
  ps : L s = true → L m = true ∧ L e = true
  led : L s = false → Led wS.heap.size w (osX r (L a) (L b) (L c) (L d) (L e) (zs.getD a undef) (zs.getD b undef) (zs.getD c undef) (zs.getD d undef) (zs.getD e undef))
  ptr : L e = true → ∃ g, zs.getD e undef = .pointer (some ⟨g, 0, none⟩)
  rm : L m = true → L s = false → MX (L e) (zs.getD e undef) jA (zs.getD m undef) w
  fin : L s = true → VB wS jA (zs.getD e undef) w
/-- The order of the marked operations. -/
structure Asc (a b c d m e s : Nat) : Prop where
  h1 : a < b
  h2 : b < c
  h3 : c < d
  h4 : d < m
  h5 : m < e
  h6 : e < s
theorem upd_ne {L : Nat → Bool} {k j : Nat} (h : j ≠ k) : upd L k j = L j := by
  unfold upd
  rw [if_neg (fun e => h e.symm)]
theorem upd_eq {L : Nat → Bool} {k : Nat} : upd L k k = true := by
  unfold upd
  rw [if_pos rfl]
theorem getD_ne {zs : List Value} {k j : Nat} {v : Value} (h : j ≠ k) : (zs.set k v).getD j undef = zs.getD j undef := by
  rw [List.getD_eq_getElem?_getD, List.getD_eq_getElem?_getD, List.getElem?_set_ne (fun e => h e.symm)]
theorem getD_eq {zs : List Value} {k : Nat} {v : Value} (h : k < zs.length) : (zs.set k v).getD k undef = v := by
  rw [List.getD_eq_getElem?_getD, List.getElem?_set_self h]; rfl
section
variable {a b c d m e s : Nat} {wS : World} {cs : List (Option Value)} {r : RX} {jA : J} {zs : List Value} {L : Nat → Bool} {w : World}
theorem FX.start (hz : zs.length = s) : FX a b c d m e s wS cs r jA zs (fun _ => false) wS.drew := by
  refine ⟨hz, (Below.refl _ _).drew, fun _ _ _ _ _ h => (by cases h), fun h => (by cases h), fun h => (by cases h), fun h => (by cases h), fun h => (by cases h), fun _ => ?_, fun h => (by cases h), fun h => (by cases h), fun h => (by cases h)⟩
  have hd : ∀ (i : Nat) (o : Ob), (osX r false false false false false (zs.getD a undef) (zs.getD b undef) (zs.getD c undef) (zs.getD d undef) (zs.getD e undef))[i]? = some o → o.live = false := fun i o ho => by
    have := List.mem_of_getElem? ho
    simp [osX] at this
    rcases this with rfl | rfl | rfl <;> rfl
  exact ⟨fun i o ho hl => (by rw [hd i o ho] at hl; cases hl), fun i j o p _ ho _ hl _ => (by rw [hd i o ho] at hl; cases hl)⟩
/-- Constants, where another operation has run. -/
theorem FX.cst' (h : FX a b c d m e s wS cs r jA zs L w) {k : Nat} {v : Value} (hv : cs[k]? = some (some v) ∨ cs[k]? = some none) : ∀ k' u z, cs[k']? = some (some u) → (zs.set k v)[k']? = some z → upd L k k' = true → z = u := fun k' u z hc hz hL => by
  by_cases hk : k' = k
  · subst hk
    rcases hv with hv | hv
    · rw [hv] at hc
      cases hc
      rw [List.getElem?_set] at hz
      simp only [if_true] at hz
      split at hz
      · cases hz; rfl
      · cases hz
    · rw [hv] at hc; cases hc
  · rw [upd_ne hk] at hL
    rw [List.getElem?_set_ne (fun x => hk x.symm)] at hz
    exact h.cst k' u z hc hz hL
/-- An operation that only computes. -/
theorem FX.pure (h : FX a b c d m e s wS cs r jA zs L w) {k : Nat} {v : Value} (hv : cs[k]? = some (some v)) (ha : a ≠ k) (hb : b ≠ k) (hc : c ≠ k) (hd : d ≠ k) (hm : m ≠ k) (he : e ≠ k) (hs : s ≠ k) : FX a b c d m e s wS cs r jA (zs.set k v) (upd L k) w := by
  refine ⟨by simpa using h.len, h.bel, h.cst' (.inl hv), ?_, ?_, ?_, ?_, ?_, ?_, ?_, ?_⟩
  · rw [upd_ne hb, upd_ne ha]; exact h.pb
  · rw [upd_ne hd, upd_ne hc]; exact h.pd
  · rw [upd_ne hm, upd_ne hb, upd_ne hd]; exact h.pm
  · rw [upd_ne hs, upd_ne hm, upd_ne he]; exact h.ps
  · rw [upd_ne hs, upd_ne ha, upd_ne hb, upd_ne hc, upd_ne hd, upd_ne he, getD_ne ha, getD_ne hb, getD_ne hc, getD_ne hd, getD_ne he]; exact h.led
  · rw [upd_ne he, getD_ne he]; exact h.ptr
  · rw [upd_ne hm, upd_ne hs, upd_ne he, getD_ne he, getD_ne hm]; exact h.rm
  · rw [upd_ne hs, getD_ne he]; exact h.fin
theorem FX.not_s (h : FX a b c d m e s wS cs r jA zs L w) {k : Nat} (hk : L k = false) (hx : k = a ∨ k = b ∨ k = c ∨ k = d ∨ k = m ∨ k = e) : L s = false := by
  cases hs : L s with
  | false => rfl
  | true =>
    obtain ⟨h1, h2⟩ := h.ps hs
    obtain ⟨h3, h4⟩ := h.pm h1
    have h5 := h.pb h3
    have h6 := h.pd h4
    rcases hx with rfl | rfl | rfl | rfl | rfl | rfl <;> simp_all
theorem FX.not_m (h : FX a b c d m e s wS cs r jA zs L w) {k : Nat} (hk : L k = false) (hx : k = a ∨ k = b ∨ k = c ∨ k = d) : L m = false := by
  cases hm : L m with
  | false => rfl
  | true =>
    obtain ⟨h3, h4⟩ := h.pm hm
    have h5 := h.pb h3
    have h6 := h.pd h4
    rcases hx with rfl | rfl | rfl | rfl <;> simp_all
/-- The first row is copied. -/
theorem FX.copyA (h : FX a b c d m e s wS cs r jA zs L w) (A : Asc a b c d m e s) (hk : L a = false) (hca : cs[a]? = some none) {v' : Value} {w' : World} (hown : w'.ownsRow wS.heap.size 9 1 v' r.n0 r.xs0) (hg : w.grownBy w' none) (hat : v'.ownBlock = none ∨ v'.ownBlock = some w.heap.size) : FX a b c d m e s wS cs r jA (zs.set a v') (upd L a) w' := by
  obtain ⟨h1, h2, h3, h4, h5, h6⟩ := A
  have hs := h.not_s hk (.inl rfl)
  have hm := h.not_m hk (.inl rfl)
  have hb : L b = false := by
    cases hb : L b with
    | false => rfl
    | true => rw [h.pb hb] at hk; cases hk
  have hbn : Below w.heap.size w w' := (Below.refl _ _).grown hg (Nat.le_refl _) (fun k hk => by cases hk)
  have hled := (h.led hs).new hbn 0 ⟨true, v', 9, 1, r.n0, r.xs0⟩ hown (fun g e => by
    rcases hat with x | x
    · have e : v'.ownBlock = some g := e
      rw [x] at e; cases e
    · have e : v'.ownBlock = some g := e
      rw [x] at e; cases e; exact Nat.le_refl _)
  have na : ∀ j, a < j → j ≠ a := fun j hj => by omega
  refine ⟨by simpa using h.len, h.bel.trans (hbn.mono h.bel.size), h.cst' (.inr hca), ?_, ?_, ?_, ?_, ?_, ?_, ?_, ?_⟩
  · rw [upd_ne (na b h1), hb]; intro x; cases x
  · rw [upd_ne (na d (by omega)), upd_ne (na c (by omega))]; exact h.pd
  · rw [upd_ne (na m (by omega)), hm]; intro x; cases x
  · rw [upd_ne (na s (by omega)), hs]; intro x; cases x
  · intro _
    rw [upd_eq, upd_ne (na b h1), upd_ne (na c (by omega)), upd_ne (na d (by omega)), upd_ne (na e (by omega)), getD_eq (by rw [h.len]; omega), getD_ne (na b h1), getD_ne (na c (by omega)), getD_ne (na d (by omega)), getD_ne (na e (by omega)), hb]
    rw [hb] at hled
    exact hled
  · rw [upd_ne (na e (by omega)), getD_ne (na e (by omega))]; exact h.ptr
  · rw [upd_ne (na m (by omega)), hm]; intro x; cases x
  · rw [upd_ne (na s (by omega)), hs]; intro x; cases x
/-- The second row is copied. -/
theorem FX.copyC (h : FX a b c d m e s wS cs r jA zs L w) (A : Asc a b c d m e s) (hk : L c = false) (hca : cs[c]? = some none) {v' : Value} {w' : World} (hown : w'.ownsRow wS.heap.size 45 6 v' r.k0 r.ys0) (hg : w.grownBy w' none) (hat : v'.ownBlock = none ∨ v'.ownBlock = some w.heap.size) : FX a b c d m e s wS cs r jA (zs.set c v') (upd L c) w' := by
  obtain ⟨h1, h2, h3, h4, h5, h6⟩ := A
  have hs := h.not_s hk (.inr (.inr (.inl rfl)))
  have hm := h.not_m hk (.inr (.inr (.inl rfl)))
  have hd : L d = false := by
    cases hd : L d with
    | false => rfl
    | true => rw [h.pd hd] at hk; cases hk
  have hbn : Below w.heap.size w w' := (Below.refl _ _).grown hg (Nat.le_refl _) (fun k hk => by cases hk)
  have hled := (h.led hs).new hbn 1 ⟨true, v', 45, 6, r.k0, r.ys0⟩ hown (fun g e => by
    rcases hat with x | x
    · have e : v'.ownBlock = some g := e
      rw [x] at e; cases e
    · have e : v'.ownBlock = some g := e
      rw [x] at e; cases e; exact Nat.le_refl _)
  have na : ∀ j, j < c ∨ c < j → j ≠ c := fun j hj => by omega
  refine ⟨by simpa using h.len, h.bel.trans (hbn.mono h.bel.size), h.cst' (.inr hca), ?_, ?_, ?_, ?_, ?_, ?_, ?_, ?_⟩
  · rw [upd_ne (na b (by omega)), upd_ne (na a (by omega))]; exact h.pb
  · rw [upd_ne (na d (by omega)), hd]; intro x; cases x
  · rw [upd_ne (na m (by omega)), hm]; intro x; cases x
  · rw [upd_ne (na s (by omega)), hs]; intro x; cases x
  · intro _
    rw [upd_eq, upd_ne (na a (by omega)), upd_ne (na b (by omega)), upd_ne (na d (by omega)), upd_ne (na e (by omega)), getD_eq (by rw [h.len]; omega), getD_ne (na a (by omega)), getD_ne (na b (by omega)), getD_ne (na d (by omega)), getD_ne (na e (by omega)), hd]
    rw [hd] at hled
    exact hled
  · rw [upd_ne (na e (by omega)), getD_ne (na e (by omega))]; exact h.ptr
  · rw [upd_ne (na m (by omega)), hm]; intro x; cases x
  · rw [upd_ne (na s (by omega)), hs]; intro x; cases x
/-- The first row, as it was copied. -/
theorem FX.rowA (h : FX a b c d m e s wS cs r jA zs L w) (hs : L s = false) (ha : L a = true) (hb : L b = false) : w.ownsRow wS.heap.size 9 1 (zs.getD a undef) r.n0 r.xs0 := by
  have := (h.led hs).row 0 ⟨L a, if L b = true then zs.getD b undef else zs.getD a undef, 9, 1, if L b = true then r.n1 else r.n0, if L b = true then r.xs1 else r.xs0⟩ rfl ha
  rw [hb] at this
  exact this
theorem FX.rowB (h : FX a b c d m e s wS cs r jA zs L w) (hs : L s = false) (hb : L b = true) : w.ownsRow wS.heap.size 9 1 (zs.getD b undef) r.n1 r.xs1 := by
  have := (h.led hs).row 0 ⟨L a, if L b = true then zs.getD b undef else zs.getD a undef, 9, 1, if L b = true then r.n1 else r.n0, if L b = true then r.xs1 else r.xs0⟩ rfl (h.pb hb)
  rw [hb] at this
  exact this
theorem FX.rowC (h : FX a b c d m e s wS cs r jA zs L w) (hs : L s = false) (hc : L c = true) (hd : L d = false) : w.ownsRow wS.heap.size 45 6 (zs.getD c undef) r.k0 r.ys0 := by
  have := (h.led hs).row 1 ⟨L c, if L d = true then zs.getD d undef else zs.getD c undef, 45, 6, if L d = true then r.k1 else r.k0, if L d = true then r.ys1 else r.ys0⟩ rfl hc
  rw [hd] at this
  exact this
theorem FX.rowD (h : FX a b c d m e s wS cs r jA zs L w) (hs : L s = false) (hd : L d = true) : w.ownsRow wS.heap.size 45 6 (zs.getD d undef) r.k1 r.ys1 := by
  have := (h.led hs).row 1 ⟨L c, if L d = true then zs.getD d undef else zs.getD c undef, 45, 6, if L d = true then r.k1 else r.k0, if L d = true then r.ys1 else r.ys0⟩ rfl (h.pd hd)
  rw [hd] at this
  exact this
/-- The first row grows. -/
theorem FX.growB (h : FX a b c d m e s wS cs r jA zs L w) (A : Asc a b c d m e s) (hk : L b = false) (ha : L a = true) (hca : cs[b]? = some none) {v' : Value} {w' : World} (hown : w'.ownsRow wS.heap.size 9 1 v' r.n1 r.xs1) (hg : w.grownBy w' (zs.getD a undef).ownBlock) (hat : v'.ownBlock = (zs.getD a undef).ownBlock ∨ v'.ownBlock = some w.heap.size) : FX a b c d m e s wS cs r jA (zs.set b v') (upd L b) w' := by
  obtain ⟨h1, h2, h3, h4, h5, h6⟩ := A
  have hs := h.not_s hk (.inr (.inl rfl))
  have hm := h.not_m hk (.inr (.inl rfl))
  have hr0 := h.rowA hs ha hk
  have hled := (h.led hs).grow 0 ⟨true, zs.getD a undef, 9, 1, r.n0, r.xs0⟩ ⟨true, v', 9, 1, r.n1, r.xs1⟩ (by simp [osX, ha, hk]) rfl hown hg hat
  have na : ∀ j, j < b ∨ b < j → j ≠ b := fun j hj => by omega
  refine ⟨by simpa using h.len, h.bel.grown hg h.bel.size (fun g e => row_ge hr0 e), h.cst' (.inr hca), ?_, ?_, ?_, ?_, ?_, ?_, ?_, ?_⟩
  · rw [upd_ne (na a (by omega)), ha]; exact fun _ => rfl
  · rw [upd_ne (na d (by omega)), upd_ne (na c (by omega))]; exact h.pd
  · rw [upd_ne (na m (by omega)), hm]; intro x; cases x
  · rw [upd_ne (na s (by omega)), hs]; intro x; cases x
  · intro _
    rw [upd_eq, upd_ne (na a (by omega)), upd_ne (na c (by omega)), upd_ne (na d (by omega)), upd_ne (na e (by omega)), getD_eq (by rw [h.len]; omega), getD_ne (na a (by omega)), getD_ne (na c (by omega)), getD_ne (na d (by omega)), getD_ne (na e (by omega)), ha]
    exact hled
  · rw [upd_ne (na e (by omega)), getD_ne (na e (by omega))]; exact h.ptr
  · rw [upd_ne (na m (by omega)), hm]; intro x; cases x
  · rw [upd_ne (na s (by omega)), hs]; intro x; cases x
/-- The second row grows. -/
theorem FX.growD (h : FX a b c d m e s wS cs r jA zs L w) (A : Asc a b c d m e s) (hk : L d = false) (hc : L c = true) (hca : cs[d]? = some none) {v' : Value} {w' : World} (hown : w'.ownsRow wS.heap.size 45 6 v' r.k1 r.ys1) (hg : w.grownBy w' (zs.getD c undef).ownBlock) (hat : v'.ownBlock = (zs.getD c undef).ownBlock ∨ v'.ownBlock = some w.heap.size) : FX a b c d m e s wS cs r jA (zs.set d v') (upd L d) w' := by
  obtain ⟨h1, h2, h3, h4, h5, h6⟩ := A
  have hs := h.not_s hk (.inr (.inr (.inr (.inl rfl))))
  have hm := h.not_m hk (.inr (.inr (.inr rfl)))
  have hr0 := h.rowC hs hc hk
  have hled := (h.led hs).grow 1 ⟨true, zs.getD c undef, 45, 6, r.k0, r.ys0⟩ ⟨true, v', 45, 6, r.k1, r.ys1⟩ (by simp [osX, hc, hk]) rfl hown hg hat
  have na : ∀ j, j < d ∨ d < j → j ≠ d := fun j hj => by omega
  refine ⟨by simpa using h.len, h.bel.grown hg h.bel.size (fun g e => row_ge hr0 e), h.cst' (.inr hca), ?_, ?_, ?_, ?_, ?_, ?_, ?_, ?_⟩
  · rw [upd_ne (na b (by omega)), upd_ne (na a (by omega))]; exact h.pb
  · rw [upd_ne (na c (by omega)), hc]; exact fun _ => rfl
  · rw [upd_ne (na m (by omega)), hm]; intro x; cases x
  · rw [upd_ne (na s (by omega)), hs]; intro x; cases x
  · intro _
    rw [upd_eq, upd_ne (na a (by omega)), upd_ne (na b (by omega)), upd_ne (na c (by omega)), upd_ne (na e (by omega)), getD_eq (by rw [h.len]; omega), getD_ne (na a (by omega)), getD_ne (na b (by omega)), getD_ne (na c (by omega)), getD_ne (na e (by omega)), hc]
    exact hled
  · rw [upd_ne (na e (by omega)), getD_ne (na e (by omega))]; exact h.ptr
  · rw [upd_ne (na m (by omega)), hm]; intro x; cases x
  · rw [upd_ne (na s (by omega)), hs]; intro x; cases x
/-- Make. -/
theorem FX.made (h : FX a b c d m e s wS cs r jA zs L w) (A : Asc a b c d m e s) (hk : L m = false) (hb : L b = true) (hd : L d = true) (hca : cs[m]? = some none) {w' : World} {k x y : Int} {t : ByteArray} {an : Option Addr} {nn cn : Nat} {ai : Option Addr} {ni ci : Nat} (hbl : Below w.heap.size w w')
    (hJ : JAt (fun b => w.heap.size ≤ b) w' 16 (.agg #[.int .i64 k, .int .i64 x, .int .i64 y, .string t, .slice an nn cn, .slice ai ni ci]) jA) : FX a b c d m e s wS cs r jA (zs.set m (.agg #[.int .i64 k, .int .i64 x, .int .i64 y, .string t, .slice an nn cn, .slice ai ni ci])) (upd L m) w' := by
  obtain ⟨h1, h2, h3, h4, h5, h6⟩ := A
  have hs := h.not_s hk (.inr (.inr (.inr (.inr (.inl rfl)))))
  have na : ∀ j, j < m ∨ m < j → j ≠ m := fun j hj => by omega
  have hS : ∀ b, w.heap.size ≤ b → (L e = true → zs.getD e undef ≠ .pointer (some ⟨b, 0, none⟩)) := fun b hb h9 hx => by
    have hr := (h.led hs).row 2 ⟨L e, rowOf (zs.getD e undef), 45, 6, 1, zeroL⟩ rfl h9
    have := own_lt hr (g := b) (by rw [hx]; rfl)
    omega
  refine ⟨by simpa using h.len, h.bel.trans (hbl.mono h.bel.size), h.cst' (.inr hca), ?_, ?_, ?_, ?_, ?_, ?_, ?_, ?_⟩
  · rw [upd_ne (na b (by omega)), upd_ne (na a (by omega))]; exact h.pb
  · rw [upd_ne (na d (by omega)), upd_ne (na c (by omega))]; exact h.pd
  · rw [upd_ne (na b (by omega)), upd_ne (na d (by omega))]; exact fun _ => ⟨hb, hd⟩
  · rw [upd_ne (na s (by omega)), hs]; intro x; cases x
  · rw [upd_ne (na s (by omega)), upd_ne (na a (by omega)), upd_ne (na b (by omega)), upd_ne (na c (by omega)), upd_ne (na d (by omega)), upd_ne (na e (by omega)), getD_ne (na a (by omega)), getD_ne (na b (by omega)), getD_ne (na c (by omega)), getD_ne (na d (by omega)), getD_ne (na e (by omega))]
    exact fun _ => (h.led hs).below hbl
  · rw [upd_ne (na e (by omega)), getD_ne (na e (by omega))]; exact h.ptr
  · intro _ _
    rw [upd_ne (na e (by omega)), getD_ne (na e (by omega)), getD_eq (by rw [h.len]; omega)]
    exact ⟨_, _, _, _, _, _, _, _, _, _, rfl, hJ.keep (fun b h1 _ => hS b h1) (fun _ _ _ => rfl) (Nat.le_refl _)⟩
  · rw [upd_ne (na s (by omega)), hs]; intro x; cases x
/-- The box. -/
theorem FX.box (h : FX a b c d m e s wS cs r jA zs L w) (A : Asc a b c d m e s) (hk : L e = false) (hca : cs[e]? = some none) : FX a b c d m e s wS cs r jA (zs.set e (.pointer (some ⟨w.heap.size, 0, none⟩))) (upd L e) (w.alloc (.cells zeroL.toArray 45)) := by
  obtain ⟨h1, h2, h3, h4, h5, h6⟩ := A
  have hs := h.not_s hk (.inr (.inr (.inr (.inr (.inr rfl)))))
  have na : ∀ j, j < e ∨ e < j → j ≠ e := fun j hj => by omega
  have hled := (h.led hs).new (w' := w.alloc (.cells zeroL.toArray 45)) (belowOne _ _) 2 ⟨true, .slice (some ⟨w.heap.size, 0, none⟩) 1 1, 45, 6, 1, zeroL⟩ (row_new w _ _ 6 1 zeroL.toArray h.bel.size rfl (by decide)) (fun g hg => by cases hg; exact Nat.le_refl _)
  refine ⟨by simpa using h.len, h.bel.trans ((belowOne _ _).mono h.bel.size), h.cst' (.inr hca), ?_, ?_, ?_, ?_, ?_, ?_, ?_, ?_⟩
  · rw [upd_ne (na b (by omega)), upd_ne (na a (by omega))]; exact h.pb
  · rw [upd_ne (na d (by omega)), upd_ne (na c (by omega))]; exact h.pd
  · rw [upd_ne (na m (by omega)), upd_ne (na b (by omega)), upd_ne (na d (by omega))]; exact h.pm
  · rw [upd_ne (na s (by omega)), hs]; intro x; cases x
  · intro _
    rw [upd_eq, upd_ne (na a (by omega)), upd_ne (na b (by omega)), upd_ne (na c (by omega)), upd_ne (na d (by omega)), getD_eq (by rw [h.len]; omega), getD_ne (na a (by omega)), getD_ne (na b (by omega)), getD_ne (na c (by omega)), getD_ne (na d (by omega))]
    exact hled
  · intro _
    rw [getD_eq (by rw [h.len]; omega)]
    exact ⟨_, rfl⟩
  · rw [upd_ne (na m (by omega)), upd_ne (na s (by omega)), getD_ne (na m (by omega)), getD_eq (by rw [h.len]; omega)]
    intro hm _
    obtain ⟨k, m', e', t, an, nn, cn, ai, ni, ci, q1, q2⟩ := h.rm hm hs
    exact ⟨k, m', e', t, an, nn, cn, ai, ni, ci, q1, q2.keep (fun b _ hb _ hx => by cases hx; exact absurd hb (Nat.lt_irrefl _)) (fun b _ hb => (belowOne w _).block b hb) (belowOne w _).size⟩
  · rw [upd_ne (na s (by omega)), hs]; intro x; cases x
theorem FX.place (h : FX a b c d m e s wS cs r jA zs L w) (hs : L s = false) (he : L e = true) : ∃ g, zs.getD e undef = .pointer (some ⟨g, 0, none⟩) ∧ wS.heap.size ≤ g ∧ w.heap[g]? = some (.cells #[.int .i64 0, .int .i64 0, .int .i64 0, .string ⟨#[]⟩, .slice none 0 0, .slice none 0 0] 45 (0, 0)) := by
  obtain ⟨g, hg⟩ := h.ptr he
  refine ⟨g, hg, ?_⟩
  have hr := (h.led hs).row 2 ⟨L e, rowOf (zs.getD e undef), 45, 6, 1, zeroL⟩ rfl he
  rw [hg] at hr
  rcases hr.2 with ⟨q, _⟩ | ⟨g', cap, cur, hv, hb, hh, _, _, hcs, htk⟩
  · cases q
  · cases hv
    refine ⟨hb, ?_⟩
    rw [hh]
    have : cur = #[.int .i64 0, .int .i64 0, .int .i64 0, .string ⟨#[]⟩, .slice none 0 0, .slice none 0 0] := by
      apply Array.ext'
      have h6 : cur.size = 6 := hcs
      have h7 : cur.toList.take 6 = zeroL := htk
      rw [List.take_of_length_le (by rw [Array.length_toList]; omega)] at h7
      exact h7
    rw [this]
/-- The value is stored into its box. -/
theorem FX.store (h : FX a b c d m e s wS cs r jA zs L w) (A : Asc a b c d m e s) (hs : L s = false) (hm : L m = true) (he : L e = true) {g : Nat} (hg : zs.getD e undef = .pointer (some ⟨g, 0, none⟩)) (hge : wS.heap.size ≤ g) (hh : w.heap[g]? = some (.cells #[.int .i64 0, .int .i64 0, .int .i64 0, .string ⟨#[]⟩, .slice none 0 0, .slice none 0 0] 45 (0, 0)))
    {k x y : Int} {t : ByteArray} {an : Option Addr} {nn cn : Nat} {ai : Option Addr} {ni ci : Nat} (hu : zs.getD m undef = .agg #[.int .i64 k, .int .i64 x, .int .i64 y, .string t, .slice an nn cn, .slice ai ni ci]) :
    FX a b c d m e s wS cs r jA zs (upd L s) (put6 w g 0 (.int .i64 k) (.int .i64 x) (.int .i64 y) (.string t) (.slice an nn cn) (.slice ai ni ci)) := by
  obtain ⟨h1, h2, h3, h4, h5, h6⟩ := A
  have na : ∀ j, j < s → j ≠ s := fun j hj => by omega
  have hb := below_put6' h.bel hge (.int .i64 k) (.int .i64 x) (.int .i64 y) (.string t) (.slice an nn cn) (.slice ai ni ci)
  obtain ⟨k', m', e', t', an', nn', cn', ai', ni', ci', q1, q2⟩ := h.rm hm hs
  rw [hu] at q2
  refine ⟨h.len, hb, fun k' u z hc hz hL => ?_, ?_, ?_, ?_, ?_, ?_, ?_, ?_, ?_⟩
  · have hk : k' ≠ s := fun e => by
      subst e
      rw [List.getElem?_eq_none (by rw [h.len]; exact Nat.le_refl _)] at hz
      cases hz
    rw [upd_ne hk] at hL
    exact h.cst k' u z hc hz hL
  · rw [upd_ne (na b (by omega)), upd_ne (na a (by omega))]; exact h.pb
  · rw [upd_ne (na d (by omega)), upd_ne (na c (by omega))]; exact h.pd
  · rw [upd_ne (na m (by omega)), upd_ne (na b (by omega)), upd_ne (na d (by omega))]; exact h.pm
  · rw [upd_ne (na m (by omega)), upd_ne (na e (by omega))]; exact fun _ => ⟨hm, he⟩
  · rw [upd_eq]; intro x; cases x
  · rw [upd_ne (na e (by omega))]; exact h.ptr
  · rw [upd_eq]; intro _ x; cases x
  · intro _
    refine ⟨g, k, x, y, t, an, nn, cn, ai, ni, ci, hg, hb, put6_self hh _ _ _ _ _ _, ?_⟩
    exact q2.keep (S' := Any) (fun _ _ _ => trivial) (fun b h1 _ => put6_block _ _ 0 _ _ _ _ _ _ b (fun e => h1 he (by rw [hg, e]))) (by rw [put6_size]; exact Nat.le_refl _)
end
end Go.Proofs.YtcpggmdiojaalaaGreatDoor.Js
