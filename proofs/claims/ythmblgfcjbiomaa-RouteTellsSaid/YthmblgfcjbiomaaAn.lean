import Derived.Test.YthmblgfcjbiomaaYl
import Derived.Maps.AppendAt
/- append onto nil of what is read, and one more behind it. -/
set_option linter.unusedVariables false
set_option linter.unusedSimpArgs false
namespace Go.Proofs.Ythmblgfcjbiomaa.Ly
open Go.RowKit

theorem run_nil_append {P : Program} (w : World) (base : Nat) (t ty e : TypeId) (i : TypeInfo) (z : Value) (size bytes : Nat) (ht : P.underlying t = some (.slice e)) (hi : P.info? e = some i) (hz : i.zero = some z)
    (hsize : i.size = size) (hby : i.bytes = bytes) (hzs : z.cells.size = size) (hsz : 0 < size) (ao : Option Addr) (n c : Nat) (news : List Value) (hl : news.length = n * size)
    (hc : 0 < n → ∃ a, ao = some a ∧ ∀ j u, news[j]? = some u → w.cell? (a.add j) = some u) (h1 : ∀ u ∈ news, u.oneCell' = true) (h63 : n ≤ maxLen) (hbytes : n * bytes ≤ 140737488355328) (hbase : base ≤ w.heap.size) :
    ∃ v' w', (Builtin.append_ #[t, t] ty #[.slice none 0 0, .slice ao n c]).run P w = .ok v' w' ∧ w'.ownsRow base e size v' n news ∧ w.grownBy w' none := by
  by_cases h0 : n = 0
  · subst h0
    have hn : news = [] := by simpa using hl
    subst hn
    refine ⟨.slice none 0 0, w, ?_, World.ownsRow_nil _ _ _ _, rfl, rfl, rfl, Nat.le_refl _, fun _ _ _ => rfl⟩
    cases ao <;> simp [Builtin.append_, run_underlying ht, sizeOf, typeInfo, hi, Builtin.lenOf, Builtin.firstCells, loadCells, loadCellsFrom]
  · obtain ⟨a, rfl, hcc⟩ := hc (by omega)
    obtain ⟨v', w', h, h2, h3, _, _⟩ := run_append_own_at (P := P) w base t ty e i z size bytes ht hi hz hsize hby hzs hsz (.slice none 0 0) 0 [] (World.ownsRow_nil _ _ _ _) a n c news hl hcc h1 (by omega) (by rw [Nat.zero_add]; exact hbytes) hbase
    refine ⟨v', w', h, ?_, h3⟩
    simpa using h2
theorem step_nil_append {P : Program} {ops : Array Oper} {o : Oper} {a : Act} {w : World} {K : Act → World → Prop} {Q : Exit → Act → World → Prop} {E : Prop} (hgd : o.guard = none) (s x : Operand) (t : TypeId)
    (ho : o.op = .call { callee := .builtin .append, args := #[s, x], argTypes := #[t, t] })
    (base : Nat) (e : TypeId) (i : TypeInfo) (z : Value) (size bytes : Nat) (ht : P.underlying t = some (.slice e)) (hi : P.info? e = some i) (hz : i.zero = some z)
    (hsize : i.size = size) (hby : i.bytes = bytes) (hzs : z.cells.size = size) (hsz : 0 < size) (hs : a.eval s = .slice none 0 0) (ao : Option Addr) (n c : Nat) (hx : a.eval x = .slice ao n c) (news : List Value) (hl : news.length = n * size)
    (hc : 0 < n → ∃ a, ao = some a ∧ ∀ j u, news[j]? = some u → w.cell? (a.add j) = some u) (h1 : ∀ u ∈ news, u.oneCell' = true) (h63 : n ≤ maxLen) (hbytes : n * bytes ≤ 140737488355328) (hbase : base ≤ w.heap.size)
    (h : ∀ v' w', w'.ownsRow base e size v' n news → w.grownBy w' none → K (a.put o.dst v') w') :
    if Region.wanted o (yielded ops a.tmps) = true then Oper.wp P o a w K Q else E := by
  have hw : Region.wanted o (yielded ops a.tmps) = true := by simp [Region.wanted, hgd]
  rw [if_pos hw]
  obtain ⟨v', w', hr, h2, h3⟩ := run_nil_append (P := P) w base t o.type e i z size bytes ht hi hz hsize hby hzs hsz ao n c news hl hc h1 h63 hbytes hbase
  unfold Oper.wp execOp
  simp only [ho, resolve, invoke, builtin, Sem.run_bind, Sem.run_pure, Result.andThen_ok, List.map_toArray, List.map_cons, List.map_nil, hs, hx, hr]
  exact h v' w' h2 h3
theorem wpList_nil_append {P : Program} {ops : Array Oper} {rest : List Oper} {o : Oper} {a : Act} {w : World} {Q : Exit → Act → World → Prop} (hgd : o.guard = none) (s x : Operand) (t : TypeId)
    (ho : o.op = .call { callee := .builtin .append, args := #[s, x], argTypes := #[t, t] })
    (base : Nat) (e : TypeId) (i : TypeInfo) (z : Value) (size bytes : Nat) (ht : P.underlying t = some (.slice e)) (hi : P.info? e = some i) (hz : i.zero = some z)
    (hsize : i.size = size) (hby : i.bytes = bytes) (hzs : z.cells.size = size) (hsz : 0 < size) (hs : a.eval s = .slice none 0 0) (ao : Option Addr) (n c : Nat) (hx : a.eval x = .slice ao n c) (news : List Value) (hl : news.length = n * size)
    (hc : 0 < n → ∃ a, ao = some a ∧ ∀ j u, news[j]? = some u → w.cell? (a.add j) = some u) (h1 : ∀ u ∈ news, u.oneCell' = true) (h63 : n ≤ maxLen) (hbytes : n * bytes ≤ 140737488355328) (hbase : base ≤ w.heap.size)
    (h : ∀ v' w', w'.ownsRow base e size v' n news → w.grownBy w' none → wpList P ops Q rest (a.put o.dst v') w') : wpList P ops Q (o :: rest) a w :=
  wpList_plain hgd fun K hK => by
    obtain ⟨v', w', hr, h2, h3⟩ := run_nil_append (P := P) w base t o.type e i z size bytes ht hi hz hsize hby hzs hsz ao n c news hl hc h1 h63 hbytes hbase
    unfold Oper.wp execOp
    simp only [ho, resolve, invoke, builtin, Sem.run_bind, Sem.run_pure, Result.andThen_ok, List.map_toArray, List.map_cons, List.map_nil, hs, hx, hr]
    exact hK _ _ (h v' w' h2 h3)
theorem addr_mid (b o j : Nat) : (⟨b, o, none⟩ : Addr).add j = ⟨b, o + j, none⟩ := by unfold Addr.add; split <;> simp_all
/-- Rows that are read, as their cells. -/
theorem ints_cells {w : World} {ao : Option Addr} {c : Nat} {l : List Int} (h : IntsAt w (.slice ao l.length c) l) : 0 < l.length → ∃ a, ao = some a ∧ ∀ j u, (intC l)[j]? = some u → w.cell? (a.add j) = some u := fun h0 => by
  obtain ⟨ao', cap, hv, _, hc⟩ := h
  simp only [Value.slice.injEq] at hv
  obtain ⟨rfl, -, -⟩ := hv
  obtain ⟨b, o, rfl, hb, hc⟩ := hc h0
  refine ⟨_, rfl, fun j u hu => ?_⟩
  have hj : j < l.length := by have := (List.getElem?_eq_some_iff.1 hu).1; simpa [intC] using this
  rw [intC_get hj] at hu
  cases hu
  rw [addr_mid]
  exact hc j hj
theorem edges_cells {w : World} {ao : Option Addr} {c : Nat} {l : List Ed} (h : EdgesAt w (.slice ao l.length c) l) : 0 < l.length → ∃ a, ao = some a ∧ ∀ j u, (flatE l)[j]? = some u → w.cell? (a.add j) = some u := fun h0 => by
  obtain ⟨ao', cap, hv, _, hc⟩ := h
  simp only [Value.slice.injEq] at hv
  obtain ⟨rfl, -, -⟩ := hv
  obtain ⟨b, o, rfl, hb, hc⟩ := hc h0
  refine ⟨_, rfl, fun j u hu => ?_⟩
  have hj : j < l.length * 3 := by have := (List.getElem?_eq_some_iff.1 hu).1; rwa [flatE_len] at this
  have hk : j / 3 < l.length := by omega
  have hg := flatE_get hk
  have hcc := hc _ hk
  rw [addr_mid]
  have h3 : j = j / 3 * 3 ∨ j = j / 3 * 3 + 1 ∨ j = j / 3 * 3 + 2 := by omega
  generalize j / 3 = q at *
  rcases h3 with rfl | rfl | rfl
  · rw [hg.1] at hu
    rw [hcc.1, hu]
  · rw [hg.2.1] at hu
    rw [← Nat.add_assoc, hcc.2.1, hu]
  · rw [hg.2.2] at hu
    rw [← Nat.add_assoc, hcc.2.2, hu]
theorem intC_one {l : List Int} : ∀ u ∈ intC l, u.oneCell' = true := fun u hu => by
  obtain ⟨x, _, rfl⟩ := List.mem_map.1 hu
  rfl
theorem flatE_one {l : List Ed} : ∀ u ∈ flatE l, u.oneCell' = true := fun u hu => by
  unfold flatE at hu
  obtain ⟨x, _, hx⟩ := List.mem_flatMap.1 hu
  simp only [edC, List.mem_cons, List.not_mem_nil, or_false] at hx
  rcases hx with rfl | rfl | rfl <;> rfl
end Go.Proofs.Ythmblgfcjbiomaa.Ly
