import Derived.Deep.AppendLies
import Derived.Laws.OwnMore
import Derived.Test.YtcpggmdiojaalaaGreatDoorInv
import Derived.Test.YtcpggmdiojaalaaGreatDoorME
/- append of a row of one's own onto another one, at a step of a region that draws: any number of elements, none too. -/
set_option linter.unusedVariables false
set_option linter.unusedSimpArgs false
namespace Go.Proofs.YtcpggmdiojaalaaGreatDoor.Js
open Go.RowKit Lex

theorem run_append_rows {P : Program} (w : World) (t ty : TypeId) (base base' : Nat) (e : TypeId) (i : TypeInfo) (z : Value) (size bytes : Nat) (ht : P.underlying t = some (.slice e)) (hi : P.info? e = some i) (hz : i.zero = some z)
    (hsize : i.size = size) (hby : i.bytes = bytes) (hzs : z.cells.size = size) (hsz : 0 < size)
    (v : Value) (n : Nat) (xs : List Value) (hown : w.ownsRow base e size v n xs) (x : Value) (m : Nat) (news : List Value) (hx : w.ownsRow base' e size x m news) (h1 : ∀ u ∈ news, u.oneCell' = true)
    (h63 : n + m ≤ maxLen) (hbytes : (n + m) * bytes ≤ 140737488355328) (hbase : base ≤ w.heap.size) :
    ∃ v' w', (Builtin.append_ #[t, t] ty #[v, x]).run P w = .ok v' w' ∧ w'.ownsRow base e size v' (n + m) (xs ++ news) ∧ w.grownBy w' v.ownBlock ∧ (v'.ownBlock = v.ownBlock ∨ v'.ownBlock = some w.heap.size) := by
  rcases hx.2 with ⟨rfl, rfl⟩ | ⟨g, cap, cur, rfl, hbg, hg, hnc, hcm, hcs, htk⟩
  · have hn : news = [] := by
      have := hx.1
      simp at this
      exact this
    subst hn
    exact ⟨v, w, run_append_owned_none (P := P) w base t ty e i size ht hi v n xs hown, by rw [Nat.add_zero, List.append_nil]; exact hown, ⟨rfl, rfl, rfl, Nat.le_refl _, fun _ _ _ => rfl⟩, .inl rfl⟩
  · obtain ⟨v', w', h2, h3, h4, _, h5⟩ := run_append_own_at (P := P) w base t ty e i z size bytes ht hi hz hsize hby hzs hsz v n xs hown ⟨g, 0, none⟩ m cap news hx.1 (fun j u hu => by
      have hj : j < m * size := by
        rw [← hx.1]
        exact (List.getElem?_eq_some_iff.1 hu).1
      have e1 : cur[j]? = some u := by
        rw [← htk] at hu
        rw [List.getElem?_take, if_pos hj] at hu
        simpa using hu
      rw [show (⟨g, 0, none⟩ : Addr).add j = ⟨g, j, none⟩ by unfold Addr.add; split <;> simp_all]
      unfold World.cell?
      rw [hg]
      simpa using e1) h1 h63 hbytes hbase
    exact ⟨v', w', h2, h3, h4, h5⟩

/-- At a step of a region that draws. -/
theorem step_append_rows {P : Program} {ops : Array Oper} {o : Oper} {a : Act} {w : World} {K : Act → World → Prop} {Q : Exit → Act → World → Prop} {E : Prop} (hgd : o.guard = none) (s x : Operand) (t : TypeId)
    (ho : o.op = .call { callee := .builtin .append, args := #[s, x], argTypes := #[t, t] })
    (base base' : Nat) (e : TypeId) (i : TypeInfo) (z : Value) (size bytes : Nat) (ht : P.underlying t = some (.slice e)) (hi : P.info? e = some i) (hz : i.zero = some z)
    (hsize : i.size = size) (hby : i.bytes = bytes) (hzs : z.cells.size = size) (hsz : 0 < size)
    (v : Value) (n : Nat) (xs : List Value) (hs : a.eval s = v) (hown : w.ownsRow base e size v n xs) (xv : Value) (m : Nat) (news : List Value) (hxv : a.eval x = xv) (hx : w.ownsRow base' e size xv m news) (h1 : ∀ u ∈ news, u.oneCell' = true)
    (h63 : n + m ≤ maxLen) (hbytes : (n + m) * bytes ≤ 140737488355328) (hbase : base ≤ w.heap.size)
    (h : ∀ v' w', w'.ownsRow base e size v' (n + m) (xs ++ news) → w.grownBy w' v.ownBlock → (v'.ownBlock = v.ownBlock ∨ v'.ownBlock = some w.heap.size) → K (a.put o.dst v') w') :
    if Region.wanted o (yielded ops a.tmps) = true then Oper.wp P o a w K Q else E := by
  have hw : Region.wanted o (yielded ops a.tmps) = true := by simp [Region.wanted, hgd]
  rw [if_pos hw]
  obtain ⟨v', w', hr, h2, h3, h4⟩ := run_append_rows (P := P) w t o.type base base' e i z size bytes ht hi hz hsize hby hzs hsz v n xs hown xv m news hx h1 h63 hbytes hbase
  unfold Oper.wp execOp
  simp only [ho, resolve, invoke, builtin, Sem.run_bind, Sem.run_pure, Result.andThen_ok, List.map_toArray, List.map_cons, List.map_nil, hs, hxv, hr]
  exact h v' w' h2 h3 h4
/-- A row that was just laid. -/
theorem row_new (w : World) (base : Nat) (e : TypeId) (size n : Nat) (cs : Array Value) (hb : base ≤ w.heap.size) (hn : cs.size = n * size) (hm : n ≤ maxLen) : (w.alloc (.cells cs e)).ownsRow base e size (.slice (some ⟨w.heap.size, 0, none⟩) n n) n cs.toList :=
  ⟨by simpa using hn, .inr ⟨w.heap.size, n, cs, rfl, hb, heap_alloc_new _ _, Nat.le_refl _, hm, hn, by rw [List.take_of_length_le]; simp [hn]⟩⟩
end Go.Proofs.YtcpggmdiojaalaaGreatDoor.Js

/- A ledger of rows of one's own, no two of which share a block; what a drawn region's operations do to it. -/
set_option linter.unusedVariables false
set_option linter.unusedSimpArgs false
namespace Go.Proofs.YtcpggmdiojaalaaGreatDoor.Js
open Go.RowKit Lex

structure Ob where
  live : Bool
  v : Value
  e : TypeId
  s : Nat
  n : Nat
  xs : List Value
structure Led (sz : Nat) (w : World) (os : List Ob) : Prop where
  row : ∀ (i : Nat) (o : Ob), os[i]? = some o → o.live = true → w.ownsRow sz o.e o.s o.v o.n o.xs
  two : ∀ (i j : Nat) (o p : Ob), i ≠ j → os[i]? = some o → os[j]? = some p → o.live = true → p.live = true → o.v.ownBlock = none ∨ o.v.ownBlock ≠ p.v.ownBlock
theorem own_lt {w : World} {base e s n : Nat} {v : Value} {xs : List Value} (h : w.ownsRow base e s v n xs) {g : Nat} (hg : v.ownBlock = some g) : g < w.heap.size := by
  rcases h.2 with ⟨rfl, _⟩ | ⟨g', cap, cur, rfl, _, hh, _⟩
  · cases hg
  · cases hg
    exact Own.block_lt hh
theorem get_set {α : Type} {os : List α} {k i : Nat} {o p : α} (h : (os.set k o)[i]? = some p) : (i = k ∧ p = o) ∨ (i ≠ k ∧ os[i]? = some p) := by
  rw [List.getElem?_set] at h
  by_cases e : k = i
  · subst e
    by_cases hl : k < os.length
    · simp [hl] at h
      exact .inl ⟨rfl, h.symm⟩
    · simp [hl] at h
  · rw [if_neg e] at h
    exact .inr ⟨fun x => e x.symm, h⟩
theorem Led.below {sz : Nat} {w w' : World} {os : List Ob} (h : Led sz w os) (hb : Below w.heap.size w w') : Led sz w' os :=
  ⟨fun i o ho hl => row_keep (h.row i o ho hl) (fun g _ hlt => hb.block g hlt), h.two⟩
/-- A new row comes in, in a block of its own, or none. -/
theorem Led.new {sz : Nat} {w w' : World} {os : List Ob} (h : Led sz w os) (hb : Below w.heap.size w w') (k : Nat) (o : Ob) (hr : w'.ownsRow sz o.e o.s o.v o.n o.xs) (hf : ∀ g, o.v.ownBlock = some g → w.heap.size ≤ g) : Led sz w' (os.set k o) := by
  refine ⟨fun i p hp hl => ?_, fun i j p q hij hp hq hl hl2 => ?_⟩
  · rcases get_set hp with ⟨_, rfl⟩ | ⟨_, hp⟩
    · exact hr
    · exact (h.below hb).row i p hp hl
  · rcases get_set hp with ⟨rfl, rfl⟩ | ⟨hi, hp2⟩
    · rcases get_set hq with ⟨rfl, rfl⟩ | ⟨hj, hq⟩
      · exact absurd rfl hij
      · cases ho : p.v.ownBlock with
        | none => exact .inl rfl
        | some g =>
          right
          intro e
          have h1 := hf g ho
          have h2 := own_lt (h.row j q hq hl2) e.symm
          omega
    · rcases get_set hq with ⟨rfl, rfl⟩ | ⟨hj, hq⟩
      · cases ho : p.v.ownBlock with
        | none => exact .inl rfl
        | some g =>
          right
          intro e
          have h1 := own_lt (h.row i p hp2 hl) ho
          have h2 := hf g e.symm
          omega
      · exact h.two i j p q hij hp2 hq hl hl2
/-- A row grows, where it is or into a new block. -/
theorem Led.grow {sz : Nat} {w w' : World} {os : List Ob} (h : Led sz w os) (k : Nat) (o p : Ob) (ho : os[k]? = some o) (hlv : o.live = true) (hr : w'.ownsRow sz p.e p.s p.v p.n p.xs) (hg : w.grownBy w' o.v.ownBlock) (hat : p.v.ownBlock = o.v.ownBlock ∨ p.v.ownBlock = some w.heap.size) : Led sz w' (os.set k p) := by
  have hkeep : ∀ (i : Nat) (q : Ob), i ≠ k → os[i]? = some q → q.live = true → w'.ownsRow sz q.e q.s q.v q.n q.xs := fun i q hi hq hl =>
    row_keep (h.row i q hq hl) (fun g hgb hlt => hg.block g hlt (by
      rcases h.two i k q o hi hq ho hl hlv with e | e
      · rw [e] at hgb; cases hgb
      · rw [← hgb]; exact e))
  refine ⟨fun i q hq hl => ?_, fun i j q r hij hq hr' hl hl2 => ?_⟩
  · rcases get_set hq with ⟨_, rfl⟩ | ⟨hi, hq⟩
    · exact hr
    · exact hkeep i q hi hq hl
  · have key : ∀ (i : Nat) (q : Ob), i ≠ k → os[i]? = some q → q.live = true → (q.v.ownBlock = none ∨ q.v.ownBlock ≠ p.v.ownBlock) ∧ (p.v.ownBlock = none ∨ p.v.ownBlock ≠ q.v.ownBlock) := fun i q hi hq hl => by
      rcases hat with e | e
      · rw [e]
        exact ⟨h.two i k q o hi hq ho hl hlv, h.two k i o q (fun x => hi x.symm) ho hq hlv hl⟩
      · rw [e]
        have hn : q.v.ownBlock ≠ some w.heap.size := fun x => by
          have := own_lt (h.row i q hq hl) x
          omega
        exact ⟨.inr hn, .inr (fun x => hn x.symm)⟩
    rcases get_set hq with ⟨rfl, rfl⟩ | ⟨hi, hq2⟩
    · rcases get_set hr' with ⟨rfl, rfl⟩ | ⟨hj, hr'⟩
      · exact absurd rfl hij
      · exact (key j r hj hr' hl2).2
    · rcases get_set hr' with ⟨rfl, rfl⟩ | ⟨hj, hr'⟩
      · exact (key i q hi hq2 hl).1
      · exact h.two i j q r hij hq2 hr' hl hl2
/-- All have run. -/
theorem all_run {ops : Array Oper} {l : Array Bool} {md : Region.Mode} (hac : ∀ (i : Nat) (o : Oper), ops[i]? = some o → ∀ e ∈ o.after.toList, e.on < i) (hs : l.size = ops.size) (hr : Region.ready md ops l = []) : ∀ i, i < ops.size → l.getD i false = true := by
  intro i
  induction i using Nat.strongRecOn with
  | ind i ih =>
    intro hi
    cases h : l.getD i false with
    | true => rfl
    | false =>
      exfalso
      have hm : i ∈ Region.ready md ops l := by
        unfold Region.ready
        rw [List.mem_filter]
        refine ⟨List.mem_range.2 hi, ?_⟩
        have h1 : l.getD i true = false := by
          rw [Array.getD_eq_getD_getElem?, Array.getElem?_eq_getElem (by omega)] at h ⊢
          exact h
        rw [h1, Array.getElem?_eq_getElem hi]
        simp only [Bool.not_false, Bool.true_and, Option.map_some, Option.getD_some]
        rw [Array.all_eq_true']
        intro e he
        have h2 := ih e.on (hac i _ (Array.getElem?_eq_getElem hi) e (by simpa using he)) (by
          have := hac i _ (Array.getElem?_eq_getElem hi) e (by simpa using he)
          omega)
        rw [h2, Bool.or_true]
      rw [hr] at hm
      cases hm
end Go.Proofs.YtcpggmdiojaalaaGreatDoor.Js

/- Make of two rows of one's own whose items' memory is old. -/
set_option linter.unusedVariables false
set_option linter.unusedSimpArgs false
namespace Go.Proofs.YtcpggmdiojaalaaGreatDoor.Js
open Go.RowKit Lex

theorem row_base {w : World} {base base' e s n : Nat} {v : Value} {xs : List Value} (h : w.ownsRow base e s v n xs) (hb : base' ≤ base) : w.ownsRow base' e s v n xs := by
  refine ⟨h.1, ?_⟩
  rcases h.2 with hn | ⟨g, cap, cur, hv, hbg, hq⟩
  · exact .inl hn
  · exact .inr ⟨g, cap, cur, hv, Nat.le_trans hb hbg, hq⟩
theorem row_ge {w : World} {base e s n : Nat} {v : Value} {xs : List Value} (h : w.ownsRow base e s v n xs) {g : Nat} (hg : v.ownBlock = some g) : base ≤ g := by
  rcases h.2 with ⟨rfl, _⟩ | ⟨g', cap, cur, rfl, hb, _⟩
  · cases hg
  · cases hg
    exact hb
theorem make_rows (base : Nat) (wS w : World) (ns : List (List UInt8)) (vs : List Value) (acc : List J) (u v : Value) (hb : Below wS.heap.size wS w) (hbase : base ≤ wS.heap.size)
    (hn : w.ownsRow wS.heap.size 9 1 u ns.length (ns.map strW)) (hi : w.ownsRow wS.heap.size 45 6 v acc.length (vs.flatMap aggC)) (hvl : vs.length = acc.length) (htx : ∀ x ∈ ns, txtB x)
    (hit : ∀ i, i < acc.length → JAt (fun b => base ≤ b) wS 15 (vs.getD i undef) (acc.getD i j0)) (hl : ns.length ≤ 9) (hl2 : acc.length ≤ 9) : Calls Tryz.prog 31 #[u, v] w (CRet w 16 (mkJ ns acc)) := by
  have hO : Own3 base 15 u v ns vs acc w := ⟨row_base hi hbase, row_base hn hbase, hvl, htx, fun i hlt => (hit i hlt).keep (S' := InT base u v) (fun b h1 h2 => ⟨h1, fun e => by have := row_ge hi e.symm; omega, fun e => by have := row_ge hn e.symm; omega⟩) (fun b _ h2 => hb.block b h2) hb.size⟩
  obtain ⟨ai, ci, rfl⟩ := own_slice hO.irow
  obtain ⟨an, cn, rfl⟩ := own_slice hO.nrow
  exact make5_any Any Any 15 w an cn ai ci ns acc (hO.strs (by omega)) (by omega) hO.its.2.1 hO.its.2.2 (by omega)
end Go.Proofs.YtcpggmdiojaalaaGreatDoor.Js

/- What lies between the operations of the drawn regions of FieldOrder: one more in front. -/
set_option linter.unusedVariables false
set_option linter.unusedSimpArgs false
namespace Go.Proofs.YtcpggmdiojaalaaGreatDoor.Js
open Go.RowKit Lex

theorem own3_cells {base n : Nat} {nv iv : Value} {ns : List (List UInt8)} {vs : List Value} {acc : List J} {w : World} (h : Own3 base n nv iv ns vs acc w) : ∀ u ∈ vs.flatMap aggC, u.oneCell' = true := by
  intro u hu
  obtain ⟨v, hv, hu⟩ := List.mem_flatMap.1 hu
  obtain ⟨i, hi, rfl⟩ := List.mem_iff_getElem.1 hv
  have hJ := h.items i (by rw [← h.vl]; exact hi)
  obtain ⟨k, m, e, t, an, nn, cn, ai, ni, ci, e1⟩ := jAt_form hJ
  rw [List.getD_eq_getElem?_getD, List.getElem?_eq_getElem hi] at e1
  simp only [Option.getD_some] at e1
  rw [e1] at hu
  simp [aggC] at hu
  rcases hu with rfl | rfl | rfl | rfl | rfl | rfl <;> rfl
def upd (L : Nat → Bool) (k : Nat) : Nat → Bool := fun j => if k = j then true else L j
def lst (l : Array Bool) : Nat → Bool := fun j => l.getD j false
theorem lst_set {l : Array Bool} {k : Nat} (h : k < l.size) : lst (l.setIfInBounds k true) = upd (lst l) k := by
  funext j
  show (l.setIfInBounds k true).getD j false = if k = j then true else l.getD j false
  rw [Array.getD_eq_getD_getElem?, Array.getD_eq_getD_getElem?, Array.getElem?_setIfInBounds]
  by_cases e : k = j
  · subst e
    simp [h]
  · simp [e]
def rowOf : Value → Value
  | .pointer (some a) => .slice (some ⟨a.block, 0, none⟩) 1 1
  | _ => .slice none 0 0
def zeroL : List Value := [.int .i64 0, .int .i64 0, .int .i64 0, .string ⟨#[]⟩, .slice none 0 0, .slice none 0 0]
/-- A value in a box of one's own. -/
def VB (wS : World) (j : J) (p : Value) (w : World) : Prop :=
  ∃ g k m e t an nn cn ai ni ci, p = .pointer (some ⟨g, 0, none⟩) ∧ Below wS.heap.size wS w ∧ w.heap[g]? = some (.cells #[.int .i64 k, .int .i64 m, .int .i64 e, .string t, .slice an nn cn, .slice ai ni ci] 45 (0, 0)) ∧
    JAt Any w 16 (.agg #[.int .i64 k, .int .i64 m, .int .i64 e, .string t, .slice an nn cn, .slice ai ni ci]) j
section
variable {wS : World} {nmV itV : Value} {more : List UInt8} {ns : List (List UInt8)} {Y : Array Value} {ys : List Value} {na : Nat} {jA : J} {L : Nat → Bool} {u80 u81 u82 u83 u84 u85 u86 u87 u88 s16 : Value} {w : World}
end
end Go.Proofs.YtcpggmdiojaalaaGreatDoor.Js
