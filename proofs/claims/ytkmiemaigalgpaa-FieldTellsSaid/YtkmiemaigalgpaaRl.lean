import Derived.Test.YtkmiemaigalgpaaRi
import Derived.Test.YtkmiemaigalgpaaFk
import Derived.Test.YtkmiemaigalgpaaFo
import Derived.Test.YtkmiemaigalgpaaQs
import Derived.Maps.AppendAt
import Derived.Deep.Upon
import Derived.Deep.AppendLies
/- The document's List and Arr; what the law Lists tells. -/
set_option linter.unusedVariables false
set_option linter.unusedSimpArgs false
namespace Go.Proofs.Ytkmiemaigalgpaa.Js
open Go.RowKit Lex

/-- What append leaves, of items behind none. -/
def AI (S : Nat → Prop) (w : World) (d : Nat) (is : List J) (a' : Option Addr) (c' : Nat) (w' : World) : Prop := is.length ≤ c' ∧ ItemsAt (fun b => S b ∨ w.heap.size ≤ b) w' d a' is ∧ Below w.heap.size w w'
theorem below_grown {w w' : World} (h : w.grownBy w' none) : Below w.heap.size w w' := ⟨h.os, h.tape, h.output, h.size, fun b hb => h.block b hb (by simp)⟩
theorem plain_add (b off j : Nat) : (⟨b, off, none⟩ : Addr).add j = ⟨b, off + j, none⟩ := by
  simp only [Addr.add]; split <;> simp_all
theorem its_in {S : Nat → Prop} {base n : Nat} {ai : Option Addr} {ni ci : Nat} {vs : List Value} {acc : List J} {w : World} (hrow : w.ownsRow base 27 6 (.slice ai ni ci) acc.length (vs.flatMap aggC)) (vl : vs.length = acc.length) (items : ∀ i, i < acc.length → JAt S w n (vs.getD i undef) (acc.getD i j0)) :
    ni = acc.length ∧ acc.length ≤ ci ∧ ItemsAt (fun b => S b ∨ base ≤ b) w n ai acc := by
  have hmem : ∀ v ∈ vs, ∃ i, i < acc.length ∧ v = vs.getD i undef := fun v hv => by
    obtain ⟨i, hi, rfl⟩ := List.mem_iff_getElem.1 hv
    exact ⟨i, by rw [← vl]; exact hi, by rw [List.getD_eq_getElem?_getD, List.getElem?_eq_getElem hi]; rfl⟩
  have h6 : ∀ v ∈ vs, (aggC v).length = 6 := fun v hv => by
    obtain ⟨i, hi, rfl⟩ := hmem v hv
    obtain ⟨_, _, _, _, _, _, _, _, _, _, e⟩ := jAt_form (items i hi)
    rw [e]; rfl
  rcases hrow.2 with ⟨e, h0⟩ | ⟨g, cap, cur, hv, hbg, hg, hnc, _⟩
  · simp at e
    exact ⟨by omega, by omega, fun hp => by omega⟩
  · cases hv
    refine ⟨rfl, hnc, fun hp => ⟨g, 0, rfl, .inr hbg, Own.block_lt hg, fun i hi => ⟨vs.getD i undef, fun q c hc => ?_, (items i hi).keep (fun b h _ => .inl h) (fun _ _ _ => rfl) (Nat.le_refl _)⟩⟩⟩
    have hi2 : i < vs.length := by rw [vl]; exact hi
    have hq : q < 6 := by
      have := (List.getElem?_eq_some_iff.1 hc).1
      rw [h6 _ (by rw [List.getD_eq_getElem?_getD, List.getElem?_eq_getElem hi2]; exact List.getElem_mem _)] at this
      exact this
    rw [Nat.zero_add, hrow.cellAt (i * 6 + q) (by omega), flat6_get h6 i q hi2 hq, hc]
theorem run_append_items (ty : TypeId) (S : Nat → Prop) (w : World) (d : Nat) (ai : Option Addr) (ci : Nat) (is : List J) (hl : is.length ≤ 1599289640354) (hI : ItemsAt S w d ai is) :
    ∃ a' c' w', (Builtin.append_ #[25, 25] ty #[.slice none 0 0, .slice ai is.length ci]).run Try.prog w = .ok (.slice a' is.length c') w' ∧ AI S w d is a' c' w' := by
  obtain ⟨i0, hi0, hz0, hz1, hz2⟩ := info_parts json_info
  by_cases h0 : is.length = 0
  · rw [h0]
    refine ⟨none, 0, w, ?_, by omega, fun hp => by omega, Below.refl _ _⟩
    cases ai with
    | none => exact run_append_nothing w _ _ _ _ i0 Try.underlying25 hi0 none 0 0 (Nat.le_refl _) _ (Src.ofNil w Try.underlying25 ci)
    | some a => exact run_append_nothing w _ _ _ _ i0 Try.underlying25 hi0 none 0 0 (Nat.le_refl _) _ (Src.ofSlice w Try.underlying25 a 0 ci [] (by simp) (fun j u h => by simp at h) (fun u h => by simp at h))
  · obtain ⟨b, off, rfl, _, hb, hit⟩ := hI (by omega)
    obtain ⟨us, hu1, hu2, hu3, hu4, hu5⟩ := items_cells hit
    obtain ⟨v', w', hr, hown, hgrow, hn, hat⟩ := run_append_own_at (P := Try.prog) w w.heap.size 25 ty 27 i0 _ 6 88 Try.underlying25 hi0 hz0 hz1 hz2 rfl (by decide) (.slice none 0 0) 0 [] (World.ownsRow_nil _ _ _ _) ⟨b, off, none⟩ is.length ci (us.flatMap aggC) hu3 (fun j u h => by rw [plain_add]; exact hu4 j u h) hu5 (by unfold maxLen; omega) (by omega) (Nat.le_refl _)
    rw [Nat.zero_add, List.nil_append] at hown
    obtain ⟨a', c', rfl⟩ := own_slice hown
    have hB := below_grown hgrow
    obtain ⟨_, hc, hI'⟩ := its_in hown hu1 (fun i hi => (hu2 i hi).below hB (Nat.le_refl _))
    exact ⟨a', c', w', hr, hc, hI', hB⟩
theorem wpList_append_items {ops : Array Oper} {rest : List Oper} {o : Oper} {a : Act} {w : World} {Q : Exit → Act → World → Prop} (hgd : o.guard = none) (s x : Operand)
    (ho : o.op = .call { callee := .builtin .append, args := #[s, x], argTypes := #[25, 25] }) (hs : a.eval s = .slice none 0 0) (ai : Option Addr) (n ci : Nat) (hx : a.eval x = .slice ai n ci)
    (S : Nat → Prop) (d : Nat) (is : List J) (hn : is.length = n) (hl : is.length ≤ 1599289640354) (hI : ItemsAt S w d ai is)
    (h : ∀ a' c' w', AI S w d is a' c' w' → wpList Try.prog ops Q rest (a.put o.dst (.slice a' n c')) w') : wpList Try.prog ops Q (o :: rest) a w := by
  subst hn
  obtain ⟨a', c', w', hr, hA⟩ := run_append_items o.type S w d ai ci is hl hI
  refine wpList_plain hgd fun _ hK => ?_
  unfold Oper.wp execOp
  simp only [ho, resolve, invoke, builtin, Sem.run_bind, Sem.run_pure, Result.andThen_ok, List.map_toArray, List.map_cons, List.map_nil, hs, hx, hr]
  exact hK _ _ (h a' c' w' hA)
/-- The items of a value, as they lie. -/
theorem jAt_its {S : Nat → Prop} {w : World} {d : Nat} {j : J} {k m e : Int} {t : ByteArray} {an : Option Addr} {nn cn : Nat} {ai : Option Addr} {ni ci : Nat} (h : JAt S w d (.agg #[.int .i64 k, .int .i64 m, .int .i64 e, .string t, .slice an nn cn, .slice ai ni ci]) j) :
    j.is.length = ni ∧ ni ≤ ci ∧ j.is.length ≤ 1599289640354 ∧ ItemsAt S w d ai j.is := by
  obtain ⟨k', m', e', t', ns, is⟩ := j
  obtain ⟨d', an', cn', ai', ci', hd, hv, _, _, _, _, _, _, _, h1, h2, h3⟩ := h.open_
  simp only [Value.agg.injEq, Array.mk.injEq, List.cons.injEq, Value.int.injEq, Value.string.injEq, Value.slice.injEq, true_and, and_true] at hv
  obtain ⟨rfl, rfl, rfl, rfl, _, rfl, rfl, rfl⟩ := hv
  have hI : ItemsAt S w d' ai is := h3
  exact ⟨rfl, h1, h2, hI.deep (by omega)⟩
/-- What items and a bool leave (their memory may be anyone's). -/
def RLs (w : World) (d : Nat) (r : List J × Bool) (e : Ending) (w' : World) : Prop :=
  ∃ ai ci, e = .returned (.tuple #[.slice ai r.1.length ci, .bool r.2]) ∧ r.1.length ≤ ci ∧ r.1.length ≤ 1599289640354 ∧ ItemsAt Any w' d ai r.1 ∧ Below w.heap.size w w'

set_option maxHeartbeats 4000000 in
set_option maxRecDepth 100000 in
theorem rlist_any (S : Nat → Prop) (d : Nat) (v : Value) (j : J) (nm : List UInt8) (w : World) (h : JAt S w d v j) : Calls Try.prog 17 #[v, .string ⟨nm.toArray⟩] w (RLs w d (withG ([], false) lstS (getS j nm))) := by
  have G1 := Lib.hid (fun o => rget_any S d v j nm (w.alloc o) (h.below ((Below.refl _ _).alloc (Nat.le_refl _) _) (Nat.le_refl _)))
  unfold RG at G1
  generalize getS j nm = R at *
  obtain ⟨x, b⟩ := R
  obtain ⟨k, m, e, t, an, nn, cn, ai, ni, ci, rfl⟩ := jAt_form h
  clear h
  unfold withG
  cases b with
  | false =>
    rw [if_neg (by simp)]
    go_enter Try.func17, Try.ntmps17
    go_wp2_with (go_at_call 9; (with_reducible refine (G1.out _).mono ?_); rintro e1 w1 ⟨k2, m2, e2', t2, an2, nn2, cn2, ai2, ni2, ci2, rfl, hJ, hb⟩)
    go_ret2
    exact ⟨none, 0, rfl, Nat.le_refl _, Nat.zero_le _, fun h => by simp at h, (below_box hb).alloc (below_box hb).size _⟩
  | true =>
    rw [if_pos rfl]
    by_cases hk : x.k = 6
    · have hx : lstS x = (x.is, true) := by unfold lstS; rw [if_pos hk]
      rw [hx]
      clear hx
      go_enter Try.func17, Try.ntmps17
      go_wp2_with (first
        | (go_at_call 9; (with_reducible refine (G1.out _).mono ?_); rintro e1 w1 ⟨k2, m2, e2', t2, an2, nn2, cn2, ai2, ni2, ci2, rfl, hJ, hb⟩; obtain ⟨h1, _, _, h4, _⟩ := jAt_tell hJ; rw [hk] at h1; subst h1; obtain ⟨q1, q2, q3, q4⟩ := jAt_its hJ; have HBX := Lib.hid ((below_box hb).alloc (below_box hb).size (.cells #[.int .i64 6, .int .i64 m2, .int .i64 e2', .string t2, .slice an2 nn2 cn2, .slice ai2 ni2 ci2] 27)); have HL := Lib.hid q1; have HM := Lib.hid q3; have HI := Lib.hid (ItemsAt.below q4 (hb.alloc hb.size (.cells #[.int .i64 6, .int .i64 m2, .int .i64 e2', .string t2, .slice an2 nn2 cn2, .slice ai2 ni2 ci2] 27))); clear hJ q1 q3 q4)
        | (refine wpList_append_items (by rfl) _ _ (by rfl) (by rfl) _ _ _ (by rfl) _ _ _ HL.out HM.out HI.out ?_; intro a' c' w' hA; have HA := Lib.hid hA; clear hA))
      go_ret2
      obtain ⟨r1, r2, r3⟩ := HA.out
      have e9 : Ending.returned (.tuple #[.slice a' x.is.length c', .bool true]) = Ending.returned (.tuple #[.slice a' ni2 c', .bool true]) := by rw [HL.out]
      exact ⟨a', c', e9.symm, r1, HM.out, r2.keep (fun _ _ _ => trivial) (fun _ _ _ => rfl) (Nat.le_refl _), HBX.out.trans (r3.mono HBX.out.size)⟩
    · have hx : lstS x = ([], false) := by unfold lstS; rw [if_neg hk]
      rw [hx]
      go_enter Try.func17, Try.ntmps17
      go_wp2_with (go_at_call 9; (with_reducible refine (G1.out _).mono ?_); rintro e1 w1 ⟨k2, m2, e2', t2, an2, nn2, cn2, ai2, ni2, ci2, rfl, hJ, hb⟩; obtain ⟨h1, _⟩ := jAt_tell hJ; have hk2 : (k2 != 6) = true := by rw [← h1]; simpa using hk)
      go_ret2
      exact ⟨none, 0, rfl, Nat.le_refl _, Nat.zero_le _, fun h => by simp at h, (below_box hb).alloc (below_box hb).size _⟩
set_option maxHeartbeats 4000000 in
set_option maxRecDepth 100000 in
theorem rarr_any (d : Nat) (w : World) (ai : Option Addr) (ci : Nat) (is : List J) (hl : is.length ≤ 1599289640354) (hc : is.length ≤ ci) (hit : ItemsAt Any w d ai is) :
    Calls Try.prog 28 #[.slice ai is.length ci] w (fun e w' => ∃ a' c', e = .returned (.agg #[.int .i64 6, .int .i64 0, .int .i64 0, .string ⟨#[]⟩, .slice none 0 0, .slice a' is.length c']) ∧ JAt Any w' (d + 1) (.agg #[.int .i64 6, .int .i64 0, .int .i64 0, .string ⟨#[]⟩, .slice none 0 0, .slice a' is.length c']) (.mk 6 0 0 [] [] is) ∧ Below w.heap.size w w') := by
  have HL := Lib.hid hl
  have hit2 : ItemsAt (fun b => b < w.heap.size) w d ai is := fun hp => by
    obtain ⟨b, off, q1, q2, q3, q4⟩ := hit hp
    exact ⟨b, off, q1, q3, q3, fun i hi => by obtain ⟨u, r1, r2⟩ := q4 i hi; exact ⟨u, r1, r2.keep (fun b _ h => h) (fun _ _ _ => rfl) (Nat.le_refl _)⟩⟩
  have HI := Lib.hid (ItemsAt.below hit2 (belowOne w (.cells zero6 27)))
  unfold zero6 at HI
  clear hit hit2
  go_enter Try.func28, Try.ntmps28
  go_wp2_with (refine wpList_append_items (by rfl) _ _ (by rfl) (by rfl) _ _ _ (by rfl) _ _ _ rfl HL.out HI.out ?_; intro a' c' w' hA; obtain ⟨r1, r2, hb1⟩ := hA; obtain ⟨x1, x2, x3⟩ := ans_one hb1; obtain ⟨⟨z0, z1, z2, z3, z4, z5⟩, g0, g1, g2, g3, g4, g5⟩ := twelve_of x1; have R1 := Lib.hid r1; have R2 := Lib.hid r2; clear r1 r2)
  refine bodyPost_ret (v := .agg #[.int .i64 6, .int .i64 0, .int .i64 0, .string ⟨#[]⟩, .slice none 0 0, .slice a' is.length c']) (by simp [results, Try.results28, go_sem, z0, z1, z2, z3, z4, z5]) rfl ?_
  have z : i64B 0 := ⟨by decide, by decide⟩
  have hI3 : ∀ c0 c1 c2 c3 c4 c5, ItemsAt Any (put6 w' w.heap.size 0 c0 c1 c2 c3 c4 c5) d a' is := fun c0 c1 c2 c3 c4 c5 => R2.out.keep (fun _ _ _ => trivial) (fun b hb _ => put6_block _ _ 0 _ _ _ _ _ _ b (by
    have hb' : b < w.heap.size ∨ (w.alloc (.cells zero6 27)).heap.size ≤ b := hb
    simp at hb'; omega)) (by rw [put6_size]; exact Nat.le_refl _)
  exact ⟨a', c', rfl, ⟨_, _, _, rfl, ⟨by decide, by decide⟩, z, z, by unfold txtB; simp, strs_none, R1.out, HL.out, hI3 _ _ _ _ _ _⟩, below_put6' x3 (Nat.le_refl _) (.int .i64 6) (.int .i64 0) (.int .i64 0) (.string ⟨#[]⟩) (.slice none 0 0) (.slice a' is.length c')⟩
set_option maxHeartbeats 4000000 in
set_option maxRecDepth 100000 in
/-- Are two lists of values the same? -/
theorem lists_any (d d2 : Nat) (w : World) (ai : Option Addr) (ci : Nat) (is : List J) (ai2 : Option Addr) (ci2 : Nat) (is2 : List J) (hl : is.length ≤ 1599289640354) (hc : is.length ≤ ci) (hit : ItemsAt Any w d ai is) (hl2 : is2.length ≤ 1599289640354) (hc2 : is2.length ≤ ci2) (hit2 : ItemsAt Any w d2 ai2 is2) :
    Calls Try.prog 18 #[.slice ai is.length ci, .slice ai2 is2.length ci2] w (Ret (.bool (sameL is is2)) w) := by
  have z : i64B 0 := ⟨by decide, by decide⟩
  have h1 : JAt Any w (d + 1) (.agg #[.int .i64 6, .int .i64 0, .int .i64 0, .string ⟨#[]⟩, .slice none 0 0, .slice ai is.length ci]) (.mk 6 0 0 [] [] is) := ⟨_, _, _, rfl, ⟨by decide, by decide⟩, z, z, by unfold txtB; simp, strs_none, hc, hl, hit⟩
  have h2 : JAt Any w (d2 + 1) (.agg #[.int .i64 6, .int .i64 0, .int .i64 0, .string ⟨#[]⟩, .slice none 0 0, .slice ai2 is2.length ci2]) (.mk 6 0 0 [] [] is2) := ⟨_, _, _, rfl, ⟨by decide, by decide⟩, z, z, by unfold txtB; simp, strs_none, hc2, hl2, hit2⟩
  have SA := Lib.hid (rsame_of Any Any _ _ _ _ w ⟨_, h1⟩ ⟨_, h2⟩)
  have hs : sameJ (.mk 6 0 0 [] [] is) (.mk 6 0 0 [] [] is2) = sameL is is2 := by rw [sameJ]; simp
  rw [hs] at SA
  clear h1 h2 hit hit2 hs
  go_enter Try.func18, Try.ntmps18
  go_wp2_with (go_at_call 6; (with_reducible refine SA.out.mono ?_); rintro e1 w1 ⟨rfl, hb⟩)
  go_ret
  exact ⟨rfl, hb⟩
end Go.Proofs.Ytkmiemaigalgpaa.Js
