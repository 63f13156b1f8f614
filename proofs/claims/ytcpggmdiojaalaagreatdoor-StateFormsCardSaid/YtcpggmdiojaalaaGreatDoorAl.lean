import Derived.Test.YtcpggmdiojaalaaGreatDoorMAj
import Derived.Test.YtcpggmdiojaalaaGreatDoorFx
import Derived.Deep.Slices
import Derived.Lib.SmallJoins
/- Layer 9: a state's text parsed; names and items that are put together of what was parsed. -/
set_option linter.unusedVariables false
set_option linter.unusedSimpArgs false
namespace Go.Proofs.YtcpggmdiojaalaaGreatDoor.Sta
open Go.RowKit Js Lex Od

/-- A value without items lies at any depth. -/
theorem jat_leaf {S : Nat → Prop} {w : World} {d : Nat} {v : Value} {k m e : Int} {t : List UInt8} (h : JAt S w d v (.mk k m e t [] [])) (n : Nat) : JAt S w (n + 1) v (.mk k m e t [] []) := by
  obtain ⟨d', an, cn, ai, ci, rfl, hv, h1, h2, h3, h4, h5, h6, h7, h8, h9, h10⟩ := h.open_
  exact ⟨_, ai, ci, hv, h1, h2, h3, h4, h5, h8, h9, fun h => by simp at h⟩
theorem item9_leaf (y : S9) : ∀ i, i < 10 → ∃ k m e t, (items9 y).getD i j0 = .mk k m e t [] [] := fun i hi => by
  obtain rfl | rfl | rfl | rfl | rfl | rfl | rfl | rfl | rfl | rfl : i = 0 ∨ i = 1 ∨ i = 2 ∨ i = 3 ∨ i = 4 ∨ i = 5 ∨ i = 6 ∨ i = 7 ∨ i = 8 ∨ i = 9 := by omega
  all_goals exact ⟨_, _, _, _, rfl⟩
/-- What is parsed of a state's text: its ten names and ten items where they lie. -/
theorem parse_lay9 {y : S9} (hr : rightT Tp.nameB y = true) (w : World) : Calls Tryz.prog 27 #[.string ⟨(printJ (layJ9 y)).toArray⟩] w (fun e w' => ∃ t bn on cn bi oi ci, e = .returned (.tuple #[.agg #[.int .i64 7, .int .i64 0, .int .i64 0, .string t, .slice (some ⟨bn, on, none⟩) 10 cn, .slice (some ⟨bi, oi, none⟩) 10 ci], .int .i64 0, .int .i64 0]) ∧
    10 ≤ cn ∧ 10 ≤ ci ∧ bn < w'.heap.size ∧ bi < w'.heap.size ∧ (∀ j, j < 10 → w'.cell? ⟨bn, on + j, none⟩ = some (strW (names9.getD j []))) ∧ (∀ i, i < 10 → ∃ u, LiesAt w' bi (oi + i * 6) u ∧ JAt (fun b => w.heap.size ≤ b ∧ b < w'.heap.size) w' 15 u ((items9 y).getD i j0)) ∧ Below w.heap.size w w') := by
  have hl := lay9_len name_ok hr
  refine (parse_any (printJ (layJ9 y)) w (by unfold maxLen; omega)).mono ?_
  rw [parse_print (lay9_right name_ok hr) (by omega)]
  rintro e w' ⟨k, m, e1, t, an, nn, cn, ai, ni, ci, rfl, ⟨d, hJ⟩, hb⟩
  have hJ' : JAt (fun b => w.heap.size ≤ b) w' d _ (.mk 7 0 0 [] names9 (items9 y)) := hJ
  obtain ⟨d', an', cn', ai', ci', rfl, hv, -, -, -, -, hs, hc1, -, hc2, -, hI⟩ := hJ'.open_
  obtain ⟨ao, cap, hsv, -, -, -, hN⟩ := hs
  obtain ⟨b, off, rfl, -, hlt, hc⟩ := hN (by simp [names9])
  obtain ⟨bi, oi, rfl, -, hlti, hi⟩ := hI (by simp [items9])
  simp only [Value.slice.injEq] at hsv
  obtain ⟨rfl, -, rfl⟩ := hsv
  simp only [Value.agg.injEq, Array.mk.injEq, List.cons.injEq, Value.int.injEq, Value.string.injEq, Value.slice.injEq, true_and, and_true] at hv
  obtain ⟨rfl, rfl, rfl, rfl, ⟨rfl, rfl, rfl⟩, rfl, rfl, rfl⟩ := hv
  refine ⟨_, b, off, cn, bi, oi, ci, rfl, hc1, hc2, hlt, hlti, fun j hj => hc j hj, fun i h6 => ?_, hb⟩
  obtain ⟨u, h1, h2⟩ := hi i h6
  obtain ⟨k, m, e, t, hy⟩ := item9_leaf y i h6
  rw [hy] at h2 ⊢
  exact ⟨u, h1, (jat_leaf h2 14).keep (fun b hb hl => ⟨hb, hl⟩) (fun _ _ _ => rfl) (Nat.le_refl _)⟩

/-- Names and items that are put together of what was parsed: the rows lie behind it. -/
structure TF (lo : Nat) (w5 : World) (ns : List (List UInt8)) (acc : List J) (nv iv : Value) (wr : World) : Prop where
  bel : Below w5.heap.size w5 wr
  own : ∃ vs, Own3 lo 15 nv iv ns vs acc wr
  n5 : ∀ g, nv.ownBlock = some g → w5.heap.size ≤ g
  i5 : ∀ g, iv.ownBlock = some g → w5.heap.size ≤ g
theorem TF.name {lo : Nat} {w5 : World} {ns : List (List UInt8)} {acc : List J} {nv iv : Value} {wr wS w2 : World} {g cp : Nat} {nm : List UInt8} (h : TF lo w5 ns acc nv iv wr) (hgrow : wS.grownBy w2 nv.ownBlock) (hBS : Below wr.heap.size wr wS) (hat : nv.ownBlock = some g ∨ wr.heap.size ≤ g) (ht : txtB nm)
    (hown : w2.ownsRow lo 9 1 (.slice (some ⟨g, 0, none⟩) (ns.length + 1) cp) (ns.length + 1) (ns.map strW ++ [strW nm])) : TF lo w5 (ns ++ [nm]) acc (.slice (some ⟨g, 0, none⟩) (ns.length + 1) cp) iv w2 := by
  obtain ⟨vs, hO⟩ := h.own
  have h1 := h.bel.size
  exact ⟨(h.bel.trans (hBS.mono h1)).grown hgrow (Nat.le_trans h1 hBS.size) h.n5, ⟨vs, hO.name hgrow hBS hat ht hown⟩, fun g' hg' => by
    cases (show some g = some g' from hg')
    rcases hat with e | e
    · exact h.n5 _ e
    · omega, h.i5⟩
theorem TF.item {lo : Nat} {w5 : World} {ns : List (List UInt8)} {acc : List J} {nv iv : Value} {wr wS w2 : World} {g cp : Nat} {vs : List Value} {c0 c1 c2 c3 c4 c5 : Value} {j : J} (h : TF lo w5 ns acc nv iv wr) (hO : Own3 lo 15 nv iv ns vs acc wr) (hgrow : wS.grownBy w2 iv.ownBlock) (hBS : Below wr.heap.size wr wS) (hat : iv.ownBlock = some g ∨ wr.heap.size ≤ g)
    (hown : w2.ownsRow lo 45 6 (.slice (some ⟨g, 0, none⟩) (acc.length + 1) cp) (acc.length + 1) (vs.flatMap aggC ++ [c0, c1, c2, c3, c4, c5])) (hJ : JAt (fun b => lo ≤ b ∧ b < w5.heap.size) wr 15 (.agg #[c0, c1, c2, c3, c4, c5]) j) : TF lo w5 ns (acc ++ [j]) nv (.slice (some ⟨g, 0, none⟩) (acc.length + 1) cp) w2 := by
  have h1 := h.bel.size
  exact ⟨(h.bel.trans (hBS.mono h1)).grown hgrow (Nat.le_trans h1 hBS.size) h.i5, ⟨_, hO.item hgrow hBS hat hown hJ (fun b hb _ => ⟨hb.1, fun e => by have := h.i5 _ e.symm; omega, fun e => by have := h.n5 _ e.symm; omega⟩)⟩, h.n5, fun g' hg' => by
    cases (show some g = some g' from hg')
    rcases hat with e | e
    · exact h.i5 _ e
    · omega⟩
/-- The first name and the first item. -/
theorem TF.one {lo : Nat} {w5 w6 w7 w8 : World} {nm : List UInt8} {u : Value} {j : J} (h6 : Below w5.heap.size w5 w6) (h7 : Below (w6.alloc (.cells #[strW nm] 9)).heap.size (w6.alloc (.cells #[strW nm] 9)) w7) (hlo : lo ≤ w5.heap.size) (ht : txtB nm) {k m e : Int} {t : List UInt8} (hu : u = bareV k m e t) (hJ : ∀ S w, JAt S w 15 u j)
    (h8 : w8 = w7.alloc (.cells #[.int .i64 k, .int .i64 m, .int .i64 e, .string ⟨t.toArray⟩, .slice none 0 0, .slice none 0 0] 45)) : TF lo w5 [nm] [j] (.slice (some ⟨w6.heap.size, 0, none⟩) 1 1) (.slice (some ⟨w7.heap.size, 0, none⟩) 1 1) w8 := by
  subst hu h8
  have s6 := h6.size
  have s7 := h7.size
  simp at s7
  have r1 := row_new w6 lo 9 1 1 #[strW nm] (by omega) rfl (by decide)
  have r2 := row_new w7 lo 45 6 1 #[.int .i64 k, .int .i64 m, .int .i64 e, .string ⟨t.toArray⟩, .slice none 0 0, .slice none 0 0] (by omega) rfl (by decide)
  have B1 : Below w5.heap.size w5 w7 := (h6.alloc s6 _).trans (h7.mono (by simp; omega))
  have B2 := belowOne w7 (.cells #[.int .i64 k, .int .i64 m, .int .i64 e, .string ⟨t.toArray⟩, .slice none 0 0, .slice none 0 0] 45)
  refine ⟨B1.trans (B2.mono (by omega)), ⟨[bareV k m e t], ⟨r2, row_keep (row_keep r1 (fun g hg hl => h7.block g hl)) (fun g hg hl => B2.block g (by omega)), rfl, fun x hx => by simp at hx; subst hx; exact ht, fun i hi => ?_⟩⟩, fun g hg => ?_, fun g hg => ?_⟩
  · obtain rfl : i = 0 := by simp at hi; omega
    exact hJ _ _
  · cases (show some w6.heap.size = some g from hg); omega
  · cases (show some w7.heap.size = some g from hg); omega

theorem back9N_take (n : List UInt8) : ∀ p, p < 10 → (back9N n).take (11 - p) = (back9N n).take (11 - (p + 1)) ++ [names9.getD p []] := fun p hp => by
  obtain rfl | rfl | rfl | rfl | rfl | rfl | rfl | rfl | rfl | rfl : p = 0 ∨ p = 1 ∨ p = 2 ∨ p = 3 ∨ p = 4 ∨ p = 5 ∨ p = 6 ∨ p = 7 ∨ p = 8 ∨ p = 9 := by omega
  all_goals rfl
theorem back9I_take (x : S9) : ∀ p, p < 10 → (back9I x).take (11 - p) = (back9I x).take (11 - (p + 1)) ++ [(items9 x).getD p j0] := fun p hp => by
  obtain rfl | rfl | rfl | rfl | rfl | rfl | rfl | rfl | rfl | rfl : p = 0 ∨ p = 1 ∨ p = 2 ∨ p = 3 ∨ p = 4 ∨ p = 5 ∨ p = 6 ∨ p = 7 ∨ p = 8 ∨ p = 9 := by omega
  all_goals rfl
theorem TF.slices {lo : Nat} {w5 : World} {ns : List (List UInt8)} {acc : List J} {nv iv : Value} {wr : World} (h : TF lo w5 ns acc nv iv wr) : ∃ an cn ai ci, nv = .slice an ns.length cn ∧ iv = .slice ai acc.length ci := by
  obtain ⟨vs, hO⟩ := h.own
  obtain ⟨ai, ci, rfl⟩ := own_slice hO.irow
  obtain ⟨an, cn, rfl⟩ := own_slice hO.nrow
  exact ⟨an, cn, ai, ci, rfl, rfl⟩
theorem make_back9 {lo : Nat} {w5 : World} {n : List UInt8} {y : S9} {nv iv : Value} {wr : World} (h : TF lo w5 (back9N n) (back9I y) nv iv wr) : Calls Tryz.prog 31 #[nv, iv] wr (CRet wr 16 (back9J y n)) := by
  obtain ⟨vs, hO⟩ := h.own
  obtain ⟨ai, ci, rfl⟩ := own_slice hO.irow
  obtain ⟨an, cn, rfl⟩ := own_slice hO.nrow
  have l1 : (back9N n).length = 11 := rfl
  have l2 : (back9I y).length = 11 := rfl
  rw [← mk_back]
  exact make5_any Any Any 15 wr an cn ai ci (back9N n) (back9I y) (hO.strs (by omega)) (by omega) hO.its.2.1 hO.its.2.2 (by omega)
/-- append of what lies somewhere, at a step of a region that draws: any number of elements, none too. -/
theorem step_append_at {P : Program} {ops : Array Oper} {o : Oper} {a : Act} {w : World} {K : Act → World → Prop} {Q : Exit → Act → World → Prop} {E : Prop} (hgd : o.guard = none) (s x : Operand) (t : TypeId)
    (ho : o.op = .call { callee := .builtin .append, args := #[s, x], argTypes := #[t, t] })
    (base : Nat) (e : TypeId) (i : TypeInfo) (z : Value) (size bytes : Nat) (ht : P.underlying t = some (.slice e)) (hi : P.info? e = some i) (hz : i.zero = some z)
    (hsize : i.size = size) (hby : i.bytes = bytes) (hzs : z.cells.size = size) (hsz : 0 < size)
    (v : Value) (n : Nat) (xs : List Value) (hs : a.eval s = v) (hown : w.ownsRow base e size v n xs) (ad : Addr) (m c : Nat) (news : List Value) (hx : a.eval x = .slice (some ad) m c) (hl : news.length = m * size) (hnews : ∀ j u, news[j]? = some u → w.cell? (ad.add j) = some u) (h1 : ∀ u ∈ news, u.oneCell' = true)
    (h63 : n + m ≤ maxLen) (hbytes : (n + m) * bytes ≤ 140737488355328) (hbase : base ≤ w.heap.size)
    (h : ∀ v' w', w'.ownsRow base e size v' (n + m) (xs ++ news) → w.grownBy w' v.ownBlock → (v'.ownBlock = v.ownBlock ∨ v'.ownBlock = some w.heap.size) → K (a.put o.dst v') w') :
    if Region.wanted o (yielded ops a.tmps) = true then Oper.wp P o a w K Q else E := by
  have hw : Region.wanted o (yielded ops a.tmps) = true := by simp [Region.wanted, hgd]
  rw [if_pos hw]
  obtain ⟨v', w', hr, h2, h3, _, h4⟩ := run_append_own_at (P := P) w base t o.type e i z size bytes ht hi hz hsize hby hzs hsz v n xs hown ad m c news hl hnews h1 h63 hbytes hbase
  unfold Oper.wp execOp
  simp only [ho, resolve, invoke, builtin, Sem.run_bind, Sem.run_pure, Result.andThen_ok, List.map_toArray, List.map_cons, List.map_nil, hs, hx, hr]
  exact h v' w' h2 h3 h4
theorem choose10 {p : Nat → Value → Prop} (h : ∀ i, i < 10 → ∃ u, p i u) : ∃ vs : List Value, vs.length = 10 ∧ ∀ i, i < 10 → p i (vs.getD i undef) := by
  haveI : Inhabited Value := ⟨undef⟩
  obtain ⟨f, hf⟩ := Deep.choose_lt h
  refine ⟨(List.range 10).map f, by simp, fun i hi => ?_⟩
  rw [List.getD_eq_getElem?_getD, List.getElem?_map, List.getElem?_range hi]
  exact hf i hi
theorem add_off (b off j : Nat) : (⟨b, off, none⟩ : Addr).add j = ⟨b, off + j, none⟩ := by
  simp only [Addr.add]; split <;> simp_all
/-- Values that lie one behind the other, cell by cell. -/
theorem lies_cells {w : World} {b : Nat} : ∀ {vs : List Value} {off : Nat}, (∀ v ∈ vs, (aggC v).length = 6) → (∀ i, i < vs.length → LiesAt w b (off + i * 6) (vs.getD i undef)) → ∀ j u, (vs.flatMap aggC)[j]? = some u → w.cell? ⟨b, off + j, none⟩ = some u := by
  intro vs off h6 hl j u hj
  have hlen : (vs.flatMap aggC).length = vs.length * 6 := by
    clear hl hj
    induction vs with
    | nil => rfl
    | cons x r ih => rw [List.flatMap_cons, List.length_append, ih (fun v hv => h6 v (List.mem_cons_of_mem _ hv)), h6 x (List.mem_cons_self ..), List.length_cons]; omega
  have hjl : j < vs.length * 6 := by rw [← hlen]; exact (List.getElem?_eq_some_iff.1 hj).1
  have e : j = j / 6 * 6 + j % 6 := by omega
  rw [e, flat6_get h6 (j / 6) (j % 6) (by omega) (by omega)] at hj
  have := hl (j / 6) (by omega) (j % 6) u hj
  rwa [show off + j / 6 * 6 + j % 6 = off + j by omega] at this
theorem strs_cells {w : World} {b : Nat} {ns : List (List UInt8)} {off : Nat} (h : ∀ i, i < ns.length → w.cell? ⟨b, off + i, none⟩ = some (strW (ns.getD i []))) : ∀ j u, (ns.map strW)[j]? = some u → w.cell? ⟨b, off + j, none⟩ = some u := by
  intro j u hj
  have hjl : j < ns.length := by
    have := (List.getElem?_eq_some_iff.1 hj).1
    simpa using this
  rw [h j hjl, ← hj, List.getElem?_map, List.getElem?_eq_getElem hjl, List.getD_eq_getElem?_getD, List.getElem?_eq_getElem hjl]
  rfl
theorem getD_take {α : Type} {z : α} {l : List α} {k i : Nat} (h : i < k) : (l.take k).getD i z = l.getD i z := by
  rw [List.getD_eq_getElem?_getD, List.getD_eq_getElem?_getD, List.getElem?_take, if_pos h]
theorem getD_drop {α : Type} {z : α} {l : List α} {k i : Nat} : (l.drop k).getD i z = l.getD (k + i) z := by
  rw [List.getD_eq_getElem?_getD, List.getD_eq_getElem?_getD, List.getElem?_drop]
/-- What the two rows of StateForms are. -/
def rx9 (k : Nat) (vs : List Value) : RX := ⟨k, 9, (names9.take k).map strW, (names9.eraseIdx k).map strW, k, 9, (vs.take k).flatMap aggC, (vs.eraseIdx k).flatMap aggC⟩
theorem names9_len (k : Nat) (hk : k < 10) : ((names9.take k).map strW).length = k * 1 ∧ ((names9.drop (k + 1)).map strW).length = (9 - k) * 1 ∧ (names9.eraseIdx k).length = 9 := by
  have e : names9.length = 10 := rfl
  rw [List.length_map, List.length_map, List.length_take, List.length_drop, List.length_eraseIdx, e, if_pos hk]
  omega
theorem names9_join (k : Nat) : (names9.take k).map strW ++ (names9.drop (k + 1)).map strW = (names9.eraseIdx k).map strW := by
  rw [List.eraseIdx_eq_take_drop_succ, List.map_append]
theorem flat_len6 : ∀ {vs : List Value}, (∀ v ∈ vs, (aggC v).length = 6) → (vs.flatMap aggC).length = vs.length * 6
  | [], _ => rfl
  | x :: r, h => by rw [List.flatMap_cons, List.length_append, flat_len6 (fun v hv => h v (List.mem_cons_of_mem _ hv)), h x (List.mem_cons_self ..), List.length_cons]; omega
theorem items_len {vs : List Value} (hv : vs.length = 10) (h6 : ∀ v ∈ vs, (aggC v).length = 6) (k : Nat) (hk : k < 10) : ((vs.take k).flatMap aggC).length = k * 6 ∧ ((vs.drop (k + 1)).flatMap aggC).length = (9 - k) * 6 ∧ (vs.eraseIdx k).length = 9 := by
  rw [flat_len6 (fun v hv => h6 v (List.mem_of_mem_take hv)), flat_len6 (fun v hv => h6 v (List.mem_of_mem_drop hv)), List.length_take, List.length_drop, List.length_eraseIdx, hv, if_pos hk]
  omega
theorem items_join (vs : List Value) (k : Nat) : (vs.take k).flatMap aggC ++ (vs.drop (k + 1)).flatMap aggC = (vs.eraseIdx k).flatMap aggC := by
  rw [List.eraseIdx_eq_take_drop_succ, List.flatMap_append]
theorem strs_one (l : List (List UInt8)) : ∀ u ∈ l.map strW, u.oneCell' = true := fun u hu => by
  obtain ⟨x, _, rfl⟩ := List.mem_map.1 hu
  rfl
/-- A slice behind a place: what is appended of it. -/
theorem part_at {w : World} {b off k n c s : Nat} {aN : Option Addr} (ha : (if c = k + 1 then some (⟨b, off, none⟩ : Addr) else some ⟨b, off + (k + 1) * s, none⟩) = aN) (hn : n ≤ c) {l : List Value} (hl : l.length = (n - (k + 1)) * s) (h : ∀ j u, l[j]? = some u → w.cell? ⟨b, off + (k + 1) * s + j, none⟩ = some u) :
    ∃ ad : Addr, aN = some ad ∧ ∀ j u, l[j]? = some u → w.cell? (ad.add j) = some u := by
  by_cases hc : c = k + 1
  · rw [if_pos hc] at ha
    refine ⟨_, ha.symm, fun j u hj => ?_⟩
    have : l.length = 0 := by rw [hl, show n - (k + 1) = 0 by omega, Nat.zero_mul]
    rw [List.length_eq_zero_iff.1 this] at hj
    simp at hj
  · rw [if_neg hc] at ha
    refine ⟨_, ha.symm, fun j u hj => ?_⟩
    rw [add_off]
    exact h j u hj
theorem getD_erase {α : Type} {z : α} {l : List α} {k i : Nat} : (l.eraseIdx k).getD i z = if i < k then l.getD i z else l.getD (i + 1) z := by
  rw [List.getD_eq_getElem?_getD, List.getElem?_eraseIdx]
  split <;> rw [List.getD_eq_getElem?_getD]
/-- A copy of a state, two flags of which are set. -/
theorem bad_box (w : World) (c0 c1 c2 c3 c4 c5 c6 c7 c8 c9 u v : Value) : (((w.alloc (.cells #[c0, c1, c2, c3, c4, c5, c6, c7, c8, c9] 53)).setCell ⟨w.heap.size, 8, none⟩ u).setCell ⟨w.heap.size, 5, none⟩ v).heap[w.heap.size]? = some (.cells #[c0, c1, c2, c3, c4, v, c6, c7, u, c9] 53 (0, 0)) ∧
    Below w.heap.size w (((w.alloc (.cells #[c0, c1, c2, c3, c4, c5, c6, c7, c8, c9] 53)).setCell ⟨w.heap.size, 8, none⟩ u).setCell ⟨w.heap.size, 5, none⟩ v) := by
  have h0 := heap_alloc_new w (.cells #[c0, c1, c2, c3, c4, c5, c6, c7, c8, c9] 53)
  have h1 := heap_setCell_same _ w.heap.size 8 _ 53 u h0
  have h2 := heap_setCell_same _ w.heap.size 5 _ 53 v h1
  exact ⟨h2, (((belowOne w _).setCell (p := ⟨w.heap.size, 8, none⟩) (Nat.le_refl _) u).setCell (p := ⟨w.heap.size, 5, none⟩) (Nat.le_refl _) v)⟩
theorem odd_box (w : World) (c0 c1 c2 c3 c4 c5 c6 c7 c8 c9 u : Value) : ((w.alloc (.cells #[c0, c1, c2, c3, c4, c5, c6, c7, c8, c9] 53)).setCell ⟨w.heap.size, 7, none⟩ u).heap[w.heap.size]? = some (.cells #[c0, c1, c2, c3, c4, c5, c6, u, c8, c9] 53 (0, 0)) ∧
    Below w.heap.size w ((w.alloc (.cells #[c0, c1, c2, c3, c4, c5, c6, c7, c8, c9] 53)).setCell ⟨w.heap.size, 7, none⟩ u) := by
  have h0 := heap_alloc_new w (.cells #[c0, c1, c2, c3, c4, c5, c6, c7, c8, c9] 53)
  exact ⟨heap_setCell_same _ w.heap.size 7 _ 53 u h0, (belowOne w _).setCell (p := ⟨w.heap.size, 7, none⟩) (Nat.le_refl _) u⟩
end Go.Proofs.YtcpggmdiojaalaaGreatDoor.Sta
