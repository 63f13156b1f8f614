import Derived.Test.YtnpbkjmlmdpggaaYh
/- Strong. -/
set_option linter.unusedVariables false
set_option linter.unusedSimpArgs false
namespace Go.Proofs.Ytnpbkjmlmdpggaa.Ly
open Go.RowKit

theorem part_bool (c : List Bool) (i : Nat) (h : i < c.length) (w : World) : (part 4 (boolC c) i).run Try.prog w = .ok (.bool (atb c i)) w := by
  unfold part
  have := boolC_get h
  simp [Sem.run_bind, Try.isAgg4, this]
theorem eq_bool (a b : Bool) (w : World) : (Op.equalIn 9999 4 (.bool a) (.bool b)).run Try.prog w = .ok (a == b) w := by
  rw [show (9999 : Nat) = 9998 + 1 from rfl, Op.equalIn]
  simp [Sem.run_bind, run_underlying Try.underlying4]
theorem eq_loop_yes (c d : List Bool) (hc : c.length = 40) (hd : d.length = 40) (w : World) : ∀ (m s : Nat), s + m = 40 → (∀ i, s ≤ i → i < 40 → atb c i = atb d i) →
    (forIn (List.range' s m) ((none, ()) : Option Bool × Unit) fun i __s => (do
            let __do_lift ← part 4 (boolC c) i
            let __do_lift_1 ← part 4 (boolC d) i
            let __do_lift ← Op.equalIn 9999 4 __do_lift __do_lift_1
            if (!__do_lift) = true then pure (ForInStep.done (some false, ())) else pure (ForInStep.yield (none, ())) : Sem (ForInStep (Option Bool × Unit)))).run Try.prog w =
      .ok (none, ()) w
  | 0, s, h, _ => by simp
  | m + 1, s, h, ha => by
    rw [List.range'_succ, List.forIn_cons]
    simp only [Sem.run_bind, part_bool c s (by omega), part_bool d s (by omega), eq_bool, Result.andThen_ok]
    have e : (atb c s == atb d s) = true := by simpa using ha s (Nat.le_refl _) (by omega)
    simp only [e, Bool.not_true, Bool.false_eq_true, if_false, Sem.run_pure, Result.andThen_ok]
    exact eq_loop_yes c d hc hd w m (s + 1) (by omega) fun i h1 h2 => ha i (by omega) h2
theorem eq_loop_no (c d : List Bool) (hc : c.length = 40) (hd : d.length = 40) (w : World) : ∀ (m s : Nat), s + m = 40 → (∃ i, s ≤ i ∧ i < 40 ∧ atb c i ≠ atb d i) →
    (forIn (List.range' s m) ((none, ()) : Option Bool × Unit) fun i __s => (do
            let __do_lift ← part 4 (boolC c) i
            let __do_lift_1 ← part 4 (boolC d) i
            let __do_lift ← Op.equalIn 9999 4 __do_lift __do_lift_1
            if (!__do_lift) = true then pure (ForInStep.done (some false, ())) else pure (ForInStep.yield (none, ())) : Sem (ForInStep (Option Bool × Unit)))).run Try.prog w =
      .ok (some false, ()) w
  | 0, s, h, ⟨i, h1, h2, _⟩ => by omega
  | m + 1, s, h, ⟨i, h1, h2, h3⟩ => by
    rw [List.range'_succ, List.forIn_cons]
    simp only [Sem.run_bind, part_bool c s (by omega), part_bool d s (by omega), eq_bool, Result.andThen_ok]
    cases e : atb c s == atb d s with
    | true =>
      simp only [Bool.not_true, Bool.false_eq_true, if_false, Sem.run_pure, Result.andThen_ok]
      refine eq_loop_no c d hc hd w m (s + 1) (by omega) ⟨i, ?_, h2, h3⟩
      by_cases x : i = s
      · subst x
        exact absurd (by simpa using e) h3
      · omega
    | false => simp only [Bool.not_false, if_true, Sem.run_pure, Result.andThen_ok]
/-- '==' of rows of forty bools. -/
theorem eqN_run (c d : List Bool) (hc : c.length = 40) (hd : d.length = 40) (w : World) (t : Bool) (ht : decide (c = d) = t) : (Op.equalIn 10000 81 (.agg (boolC c)) (.agg (boolC d))).run Try.prog w = .ok t w := by
  rw [show (10000 : Nat) = 9999 + 1 from rfl, Op.equalIn]
  simp only [Sem.run_bind, run_underlying Try.underlying81, Result.andThen_ok]
  rw [Try.sizeOf4]
  simp only [Result.andThen_ok, Std.Legacy.Range.forIn_eq_forIn_range', Std.Legacy.Range.size, Nat.sub_zero, Nat.add_sub_cancel, Nat.div_one, Nat.mul_one]
  by_cases e : c = d
  · rw [eq_loop_yes c d hc hd w 40 0 (by omega) (fun i _ _ => by rw [e])]
    rw [decide_eq_true e] at ht
    subst ht
    simp
  · have : ∃ i, 0 ≤ i ∧ i < 40 ∧ atb c i ≠ atb d i := by
      apply Classical.byContradiction
      intro h
      exact e (list_ext40 hc hd fun i hi => Classical.byContradiction fun x => h ⟨i, Nat.zero_le _, hi, x⟩)
    rw [eq_loop_no c d hc hd w 40 0 (by omega) this]
    rw [decide_eq_false e] at ht
    subst ht
    simp

/-- A row that is read, at a step of a region that only reads. -/
theorem wpQuiet_load_row {P : Program} {ops : Array Oper} {C : World → Prop} {Q : Act → Prop} {a : Act} {o : Oper} {rest : List Oper} (hgd : o.guard = none) (ty : TypeId) (x : Operand) (ho : o.op = .load ty x)
    (g : Nat) (hx : a.eval x = .pointer (some ⟨g, 0, none⟩)) (t : TypeId) (cs : Array Value) (fr : Nat × Nat) (d : TypeDesc) (hg : ∀ w, C w → w.heap[g]? = some (.cells cs t fr))
    (hu : P.underlying ty = some d) (hd : (match d with | .struct _ | .array _ _ => true | _ => false) = true) (hi : (P.info? ty).map (·.size) = some cs.size)
    (h : wpQuiet P ops C Q rest (a.put o.dst (.agg cs))) : wpQuiet P ops C Q (o :: rest) a := by
  unfold wpQuiet
  rw [if_pos (by simp [Region.wanted, hgd])]
  refine ⟨_, fun w hw => ?_, h⟩
  unfold Oper.quietAt execOp
  simp only [ho, hx, Instr.loadAt, Instr.sureAddr, Sem.run_bind, Sem.run_pure, Result.andThen_ok, run_loadVar_row w g t ty cs fr d (hg w hw) hu hd hi]
  exact ⟨rfl, rfl⟩
/-- The first k of forty. -/
def upL (k : Nat) : List Bool := (List.range 40).map fun i => decide (i < k)
theorem upL_len (k : Nat) : (upL k).length = 40 := by simp [upL]
theorem upL_at {k i : Nat} (h : i < 40) : atb (upL k) i = decide (i < k) := by
  unfold atb upL
  rw [List.getD_eq_getElem?_getD, List.getElem?_map, List.getElem?_range h]
  rfl
theorem upL_zero : upL 0 = List.replicate 40 false := list_ext40 (upL_len 0) (by simp) fun i hi => by rw [upL_at hi, atb_rep]; simp
theorem upL_succ {k : Nat} (h : k < 40) : (upL k).set k true = upL (k + 1) := list_ext40 (by simp [upL_len]) (upL_len _) fun i hi => by
  rw [atb_set (by rw [upL_len]; exact h), upL_at hi, upL_at hi]
  by_cases e : i = k
  · subst e; simp
  · rw [if_neg e]
    have : (i < k) ↔ (i < k + 1) := by omega
    simp only [this]
/-- Where one begins at a node, all that one comes to are nodes. -/
theorem Way.node {n : Int} {es : List Ed} {bl : List Int} {a v : Int} (hr : RightL n es) (ha : nodeB n a = true) (h : Way es bl a v) : nodeB n v = true := by
  cases h with
  | here => exact ha
  | over he _ _ =>
    have := (hr.edge he).2.1
    exact nodeB_iff.2 this
theorem come_all {n : Int} {N : Nat} {es : List Ed} {a : Int} (hn : n = (N : Int)) (hr : RightL n es) (ha : nodeB n a = true) : comeL es [] a = upL N ↔ ∀ v : Nat, v < N → Way es [] a v := by
  subst hn
  have h40 := hr.2.1
  constructor
  · intro h v hv
    have h1 := comeL_at (es := es) (bl := []) (a := a) (i := v) (by omega)
    rw [h, upL_at (by omega), decide_eq_true hv] at h1
    exact wayB_iff.1 h1.symm
  · intro h
    refine list_ext40 (comeL_len _ _ _) (upL_len _) fun i hi => ?_
    rw [comeL_at hi, upL_at hi, Bool.eq_iff_iff, wayB_iff, decide_eq_true_iff]
    exact ⟨fun hw => by have := (nodeB_iff.1 (hw.node hr ha)).2; omega, h i⟩
/-- Between the rounds of Strong's loops. -/
structure SI (n : Int) (v : Value) (w wr : World) (b : Nat) (c : List Bool) : Prop where
  below : Below w.heap.size w wr
  box : BoxAt n v wr w.heap.size
  arr : ArrAt wr b 81 c
  len : c.length = 40
  ge : w.heap.size < b
theorem SI.grow {n : Int} {v : Value} {w wr wr' : World} {b : Nat} {c : List Bool} (h : SI n v w wr b c) (hb : Below wr.heap.size wr wr') : SI n v w wr' b c :=
  ⟨h.below.trans (hb.mono h.below.size), h.box.below hb, h.arr.below hb h.arr.lt, h.len, h.ge⟩
theorem SI.set {n : Int} {v : Value} {w wr : World} {b : Nat} {c : List Bool} (h : SI n v w wr b c) (i : Nat) : SI n v w (wr.setCell ⟨b, i, none⟩ (.bool true)) b (c.set i true) := by
  have hge := h.ge
  refine ⟨h.below.setCell (by show w.heap.size ≤ b; omega) _, ⟨?_, ?_, ?_⟩, h.arr.set i, by simpa using h.len, h.ge⟩
  · rw [World.cell?_setCell_other _ _ _ _ (fun e => by have := congrArg Addr.block e; simp at this; omega)]; exact h.box.c0
  · rw [World.cell?_setCell_other _ _ _ _ (fun e => by have := congrArg Addr.block e; simp at this; omega)]; exact h.box.c1
  · have := h.box.lt
    simpa using this
end Go.Proofs.Ytnpbkjmlmdpggaa.Ly
