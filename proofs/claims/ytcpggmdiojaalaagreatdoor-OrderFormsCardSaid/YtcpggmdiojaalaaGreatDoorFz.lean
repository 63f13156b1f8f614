import Derived.Test.YtcpggmdiojaalaaGreatDoorMOg
import Derived.Test.YtcpggmdiojaalaaGreatDoorMOb
import Derived.Test.YtcpggmdiojaalaaGreatDoorFx
import Derived.Deep.Slices
import Derived.Lib.SmallJoins
/- Layer 8: names and items that are put together of what was parsed, and parts of them. -/
set_option linter.unusedVariables false
set_option linter.unusedSimpArgs false
namespace Go.Proofs.YtcpggmdiojaalaaGreatDoor.Od
open Go.RowKit Js Lex

/-- A value without items lies at any depth. -/
theorem jat_leaf {S : Nat → Prop} {w : World} {d : Nat} {v : Value} {k m e : Int} {t : List UInt8} (h : JAt S w d v (.mk k m e t [] [])) (n : Nat) : JAt S w (n + 1) v (.mk k m e t [] []) := by
  obtain ⟨d', an, cn, ai, ci, rfl, hv, h1, h2, h3, h4, h5, h6, h7, h8, h9, h10⟩ := h.open_
  exact ⟨_, ai, ci, hv, h1, h2, h3, h4, h5, h8, h9, fun h => by simp at h⟩

/-- Names and items that are put together of what was parsed: the rows lie behind it. -/
structure TF (lo : Nat) (w5 : World) (ns : List (List UInt8)) (acc : List J) (nv iv : Value) (wr : World) : Prop where
  bel : Below w5.heap.size w5 wr
  own : ∃ vs, Own3 lo 15 nv iv ns vs acc wr
  n5 : ∀ g, nv.ownBlock = some g → w5.heap.size ≤ g
  i5 : ∀ g, iv.ownBlock = some g → w5.heap.size ≤ g
theorem TF.name {lo : Nat} {w5 : World} {ns : List (List UInt8)} {acc : List J} {nv iv : Value} {wr wS w2 : World} {g cp : Nat} {nm : List UInt8} (h : TF lo w5 ns acc nv iv wr) (hgrow : wS.grownBy w2 nv.ownBlock) (hBS : Below wr.heap.size wr wS) (hat : nv.ownBlock = some g ∨ wr.heap.size ≤ g) (ht : txtB nm)
    (hown : w2.ownsRow lo 9 1 (.slice (some ⟨g, 0, none⟩) (ns.length + 1) cp) (ns.length + 1) (ns.map strW ++ [strW nm])) : TF lo w5 (ns ++ [nm]) acc (.slice (some ⟨g, 0, none⟩) (ns.length + 1) cp) iv w2 := by
  obtain ⟨vs, hO⟩ := h.own
  have h1 := h.bel.size
  exact ⟨(h.bel.trans (hBS.mono h1)).grown hgrow (Nat.le_trans h1 hBS.size) h.n5, ⟨vs, hO.name hgrow hBS hat ht hown⟩, fun g' hg' => by
    cases (show some g = some g' from hg')
    rcases hat with e | e
    · exact h.n5 _ e
    · omega, h.i5⟩
theorem TF.item {lo : Nat} {w5 : World} {ns : List (List UInt8)} {acc : List J} {nv iv : Value} {wr wS w2 : World} {g cp : Nat} {vs : List Value} {c0 c1 c2 c3 c4 c5 : Value} {j : J} (h : TF lo w5 ns acc nv iv wr) (hO : Own3 lo 15 nv iv ns vs acc wr) (hgrow : wS.grownBy w2 iv.ownBlock) (hBS : Below wr.heap.size wr wS) (hat : iv.ownBlock = some g ∨ wr.heap.size ≤ g)
    (hown : w2.ownsRow lo 45 6 (.slice (some ⟨g, 0, none⟩) (acc.length + 1) cp) (acc.length + 1) (vs.flatMap aggC ++ [c0, c1, c2, c3, c4, c5])) (hJ : JAt (fun b => lo ≤ b ∧ b < w5.heap.size) wr 15 (.agg #[c0, c1, c2, c3, c4, c5]) j) : TF lo w5 ns (acc ++ [j]) nv (.slice (some ⟨g, 0, none⟩) (acc.length + 1) cp) w2 := by
  have h1 := h.bel.size
  exact ⟨(h.bel.trans (hBS.mono h1)).grown hgrow (Nat.le_trans h1 hBS.size) h.i5, ⟨_, hO.item hgrow hBS hat hown hJ (fun b hb _ => ⟨hb.1, fun e => by have := h.i5 _ e.symm; omega, fun e => by have := h.n5 _ e.symm; omega⟩)⟩, h.n5, fun g' hg' => by
    cases (show some g = some g' from hg')
    rcases hat with e | e
    · exact h.i5 _ e
    · omega⟩

theorem TF.slices {lo : Nat} {w5 : World} {ns : List (List UInt8)} {acc : List J} {nv iv : Value} {wr : World} (h : TF lo w5 ns acc nv iv wr) : ∃ an cn ai ci, nv = .slice an ns.length cn ∧ iv = .slice ai acc.length ci := by
  obtain ⟨vs, hO⟩ := h.own
  obtain ⟨ai, ci, rfl⟩ := own_slice hO.irow
  obtain ⟨an, cn, rfl⟩ := own_slice hO.nrow
  exact ⟨an, cn, ai, ci, rfl, rfl⟩

/-- append of what lies somewhere, at a step of a region that draws: any number of elements, none too. -/
theorem step_append_at {P : Program} {ops : Array Oper} {o : Oper} {a : Act} {w : World} {K : Act → World → Prop} {Q : Exit → Act → World → Prop} {E : Prop} (hgd : o.guard = none) (s x : Operand) (t : TypeId)
    (ho : o.op = .call { callee := .builtin .append, args := #[s, x], argTypes := #[t, t] })
    (base : Nat) (e : TypeId) (i : TypeInfo) (z : Value) (size bytes : Nat) (ht : P.underlying t = some (.slice e)) (hi : P.info? e = some i) (hz : i.zero = some z)
    (hsize : i.size = size) (hby : i.bytes = bytes) (hzs : z.cells.size = size) (hsz : 0 < size)
    (v : Value) (n : Nat) (xs : List Value) (hs : a.eval s = v) (hown : w.ownsRow base e size v n xs) (ad : Addr) (m c : Nat) (news : List Value) (hx : a.eval x = .slice (some ad) m c) (hl : news.length = m * size) (hnews : ∀ j u, news[j]? = some u → w.cell? (ad.add j) = some u) (h1 : ∀ u ∈ news, u.oneCell' = true)
    (h63 : n + m ≤ maxLen) (hbytes : (n + m) * bytes ≤ 140737488355328) (hbase : base ≤ w.heap.size)
    (h : ∀ v' w', w'.ownsRow base e size v' (n + m) (xs ++ news) → w.grownBy w' v.ownBlock → (v'.ownBlock = v.ownBlock ∨ v'.ownBlock = some w.heap.size) → K (a.put o.dst v') w') :
    if Region.wanted o (yielded ops a.tmps) = true then Oper.wp P o a w K Q else E := by
  have hw : Region.wanted o (yielded ops a.tmps) = true := by simp [Region.wanted, hgd]
  rw [if_pos hw]
  obtain ⟨v', w', hr, h2, h3, _, h4⟩ := run_append_own_at (P := P) w base t o.type e i z size bytes ht hi hz hsize hby hzs hsz v n xs hown ad m c news hl hnews h1 h63 hbytes hbase
  unfold Oper.wp execOp
  simp only [ho, resolve, invoke, builtin, Sem.run_bind, Sem.run_pure, Result.andThen_ok, List.map_toArray, List.map_cons, List.map_nil, hs, hx, hr]
  exact h v' w' h2 h3 h4

theorem add_off (b off j : Nat) : (⟨b, off, none⟩ : Addr).add j = ⟨b, off + j, none⟩ := by
  simp only [Addr.add]; split <;> simp_all
/-- Values that lie one behind the other, cell by cell. -/
theorem lies_cells {w : World} {b : Nat} : ∀ {vs : List Value} {off : Nat}, (∀ v ∈ vs, (aggC v).length = 6) → (∀ i, i < vs.length → LiesAt w b (off + i * 6) (vs.getD i undef)) → ∀ j u, (vs.flatMap aggC)[j]? = some u → w.cell? ⟨b, off + j, none⟩ = some u := by
  intro vs off h6 hl j u hj
  have hlen : (vs.flatMap aggC).length = vs.length * 6 := by
    clear hl hj
    induction vs with
    | nil => rfl
    | cons x r ih => rw [List.flatMap_cons, List.length_append, ih (fun v hv => h6 v (List.mem_cons_of_mem _ hv)), h6 x (List.mem_cons_self ..), List.length_cons]; omega
  have hjl : j < vs.length * 6 := by rw [← hlen]; exact (List.getElem?_eq_some_iff.1 hj).1
  have e : j = j / 6 * 6 + j % 6 := by omega
  rw [e, flat6_get h6 (j / 6) (j % 6) (by omega) (by omega)] at hj
  have := hl (j / 6) (by omega) (j % 6) u hj
  rwa [show off + j / 6 * 6 + j % 6 = off + j by omega] at this
theorem strs_cells {w : World} {b : Nat} {ns : List (List UInt8)} {off : Nat} (h : ∀ i, i < ns.length → w.cell? ⟨b, off + i, none⟩ = some (strW (ns.getD i []))) : ∀ j u, (ns.map strW)[j]? = some u → w.cell? ⟨b, off + j, none⟩ = some u := by
  intro j u hj
  have hjl : j < ns.length := by
    have := (List.getElem?_eq_some_iff.1 hj).1
    simpa using this
  rw [h j hjl, ← hj, List.getElem?_map, List.getElem?_eq_getElem hjl, List.getD_eq_getElem?_getD, List.getElem?_eq_getElem hjl]
  rfl
theorem getD_take {α : Type} {z : α} {l : List α} {k i : Nat} (h : i < k) : (l.take k).getD i z = l.getD i z := by
  rw [List.getD_eq_getElem?_getD, List.getD_eq_getElem?_getD, List.getElem?_take, if_pos h]
theorem getD_drop {α : Type} {z : α} {l : List α} {k i : Nat} : (l.drop k).getD i z = l.getD (k + i) z := by
  rw [List.getD_eq_getElem?_getD, List.getD_eq_getElem?_getD, List.getElem?_drop]

theorem flat_len6 : ∀ {vs : List Value}, (∀ v ∈ vs, (aggC v).length = 6) → (vs.flatMap aggC).length = vs.length * 6
  | [], _ => rfl
  | x :: r, h => by rw [List.flatMap_cons, List.length_append, flat_len6 (fun v hv => h v (List.mem_cons_of_mem _ hv)), h x (List.mem_cons_self ..), List.length_cons]; omega

theorem items_join8 (vs : List Value) (k : Nat) : (vs.take k).flatMap aggC ++ (vs.drop (k + 1)).flatMap aggC = (vs.eraseIdx k).flatMap aggC := by
  rw [List.eraseIdx_eq_take_drop_succ, List.flatMap_append]

theorem strs_one (l : List (List UInt8)) : ∀ u ∈ l.map strW, u.oneCell' = true := fun u hu => by
  obtain ⟨x, _, rfl⟩ := List.mem_map.1 hu
  rfl

/-- A slice behind a place: what is appended of it. -/
theorem part_at {w : World} {b off k n c s : Nat} {aN : Option Addr} (ha : (if c = k + 1 then some (⟨b, off, none⟩ : Addr) else some ⟨b, off + (k + 1) * s, none⟩) = aN) (hn : n ≤ c) {l : List Value} (hl : l.length = (n - (k + 1)) * s) (h : ∀ j u, l[j]? = some u → w.cell? ⟨b, off + (k + 1) * s + j, none⟩ = some u) :
    ∃ ad : Addr, aN = some ad ∧ ∀ j u, l[j]? = some u → w.cell? (ad.add j) = some u := by
  by_cases hc : c = k + 1
  · rw [if_pos hc] at ha
    refine ⟨_, ha.symm, fun j u hj => ?_⟩
    have : l.length = 0 := by rw [hl, show n - (k + 1) = 0 by omega, Nat.zero_mul]
    rw [List.length_eq_zero_iff.1 this] at hj
    simp at hj
  · rw [if_neg hc] at ha
    refine ⟨_, ha.symm, fun j u hj => ?_⟩
    rw [add_off]
    exact h j u hj
theorem getD_erase {α : Type} {z : α} {l : List α} {k i : Nat} : (l.eraseIdx k).getD i z = if i < k then l.getD i z else l.getD (i + 1) z := by
  rw [List.getD_eq_getElem?_getD, List.getElem?_eraseIdx]
  split <;> rw [List.getD_eq_getElem?_getD]
theorem chooseN {p : Nat → Value → Prop} {n : Nat} (h : ∀ i, i < n → ∃ u, p i u) : ∃ vs : List Value, vs.length = n ∧ ∀ i, i < n → p i (vs.getD i undef) := by
  haveI : Inhabited Value := ⟨undef⟩
  obtain ⟨f, hf⟩ := Deep.choose_lt h
  refine ⟨(List.range n).map f, by simp, fun i hi => ?_⟩
  rw [List.getD_eq_getElem?_getD, List.getElem?_map, List.getElem?_range hi]
  exact hf i hi
theorem jat_up {S : Nat → Prop} {w : World} {d n : Nat} {v : Value} {k m e : Int} {t : List UInt8} {ns : List (List UInt8)} {is : List J} (h : JAt S w d v (.mk k m e t ns is)) (hi : ∀ i, i < is.length → ∀ d u, JAt S w d u (is.getD i j0) → JAt S w n u (is.getD i j0)) : JAt S w (n + 1) v (.mk k m e t ns is) := by
  obtain ⟨d', an, cn, ai, ci, rfl, hv, h1, h2, h3, h4, h5, h6, h7, h8, h9, h10⟩ := h.open_
  refine ⟨_, ai, ci, hv, h1, h2, h3, h4, h5, h8, h9, fun hp => ?_⟩
  obtain ⟨b, off, q1, q2, q3, q4⟩ := h10 hp
  exact ⟨b, off, q1, q2, q3, fun i hlt => by
    obtain ⟨u, r1, r2⟩ := q4 i hlt
    exact ⟨u, r1, hi i hlt _ u r2⟩⟩
theorem part_flat {S : Nat → Prop} {w : World} {d : Nat} {v : Value} {nm : List UInt8} {x : St} (h : JAt S w d v (partJ nm x)) (n : Nat) : JAt S w (n + 2) v (partJ nm x) := by
  refine jat_up (n := n + 1) h (fun i hi d u hu => ?_)
  have hi3 : i < 3 := hi
  obtain rfl | rfl | rfl : i = 0 ∨ i = 1 ∨ i = 2 := by omega
  all_goals exact jat_leaf hu n
theorem arr_flat {S : Nat → Prop} {w : World} {d : Nat} {v : Value} {nm : List UInt8} {l : List St} (h : JAt S w d v (.mk 6 0 0 [] [] (l.map (partJ nm)))) (n : Nat) : JAt S w (n + 3) v (.mk 6 0 0 [] [] (l.map (partJ nm))) := by
  refine jat_up (n := n + 2) h (fun i hi d u hu => ?_)
  have e : (l.map (partJ nm)).getD i j0 = partJ nm (l.getD i st0) := by
    have hi' : i < l.length := by simpa using hi
    rw [List.getD_eq_getElem?_getD, List.getElem?_map, List.getElem?_eq_getElem hi', List.getD_eq_getElem?_getD, List.getElem?_eq_getElem hi']
    rfl
  rw [e] at hu ⊢
  exact part_flat hu n
theorem itemO_flat {S : Nat → Prop} {w : World} {d : Nat} {v : Value} (y : O) {i : Nat} (hi : i < 6) (h : JAt S w d v ((itemsO y).getD i j0)) : JAt S w 15 v ((itemsO y).getD i j0) := by
  obtain rfl | rfl | rfl | rfl | rfl | rfl : i = 0 ∨ i = 1 ∨ i = 2 ∨ i = 3 ∨ i = 4 ∨ i = 5 := by omega
  · exact jat_leaf h 14
  · exact jat_leaf h 14
  · exact jat_leaf h 14
  · exact jat_leaf h 14
  · exact arr_flat h 12
  · exact arr_flat h 12
/-- What is parsed of an order's text: its six names and six items where they lie. -/
theorem parse_lay8 {y : O} (hr : rightO Tp.nameB y = true) (w : World) : Calls Tryz.prog 27 #[.string ⟨(printJ (layJ y)).toArray⟩] w (fun e w' => ∃ t bn on cn bi oi ci, e = .returned (.tuple #[.agg #[.int .i64 7, .int .i64 0, .int .i64 0, .string t, .slice (some ⟨bn, on, none⟩) 6 cn, .slice (some ⟨bi, oi, none⟩) 6 ci], .int .i64 0, .int .i64 0]) ∧
    6 ≤ cn ∧ 6 ≤ ci ∧ bn < w'.heap.size ∧ bi < w'.heap.size ∧ (∀ j, j < 6 → w'.cell? ⟨bn, on + j, none⟩ = some (strW (namesO.getD j []))) ∧ (∀ i, i < 6 → ∃ u, LiesAt w' bi (oi + i * 6) u ∧ JAt (fun b => w.heap.size ≤ b ∧ b < w'.heap.size) w' 15 u ((itemsO y).getD i j0)) ∧ Below w.heap.size w w') := by
  have hl := lay_len name_ok hr
  refine (parse_any (printJ (layJ y)) w (by unfold maxLen; omega)).mono ?_
  rw [parse_print (lay_right name_ok hr) hl]
  rintro e w' ⟨k, m, e1, t, an, nn, cn, ai, ni, ci, rfl, ⟨d, hJ⟩, hb⟩
  have hJ' : JAt (fun b => w.heap.size ≤ b) w' d _ (.mk 7 0 0 [] namesO (itemsO y)) := hJ
  obtain ⟨d', an', cn', ai', ci', rfl, hv, -, -, -, -, hs, hc1, -, hc2, -, hI⟩ := hJ'.open_
  obtain ⟨ao, cap, hsv, -, -, -, hN⟩ := hs
  obtain ⟨b, off, rfl, -, hlt, hc⟩ := hN (by simp [namesO])
  obtain ⟨bi, oi, rfl, -, hlti, hi⟩ := hI (by simp [itemsO])
  simp only [Value.slice.injEq] at hsv
  obtain ⟨rfl, -, rfl⟩ := hsv
  simp only [Value.agg.injEq, Array.mk.injEq, List.cons.injEq, Value.int.injEq, Value.string.injEq, Value.slice.injEq, true_and, and_true] at hv
  obtain ⟨rfl, rfl, rfl, rfl, ⟨rfl, rfl, rfl⟩, rfl, rfl, rfl⟩ := hv
  refine ⟨_, b, off, cn, bi, oi, ci, rfl, hc1, hc2, hlt, hlti, fun j hj => hc j hj, fun i h6 => ?_, hb⟩
  obtain ⟨u, h1, h2⟩ := hi i h6
  exact ⟨u, h1, (itemO_flat y h6 h2).keep (fun b hb hl => ⟨hb, hl⟩) (fun _ _ _ => rfl) (Nat.le_refl _)⟩
/-- The rows ahead of their first elements. -/
theorem TF.void {lo : Nat} {w5 wr : World} (h : Below w5.heap.size w5 wr) : TF lo w5 [] [] (.slice none 0 0) (.slice none 0 0) wr := ⟨h, ⟨[], own3_nil⟩, fun g hg => (by cases hg), fun g hg => (by cases hg)⟩
theorem TF.below {lo : Nat} {w5 wr w' : World} {ns : List (List UInt8)} {acc : List J} {nv iv : Value} (h : TF lo w5 ns acc nv iv wr) (hb : Below wr.heap.size wr w') : TF lo w5 ns acc nv iv w' := by
  obtain ⟨vs, hO⟩ := h.own
  exact ⟨h.bel.trans (hb.mono h.bel.size), ⟨vs, hO.below hb (Nat.le_refl _)⟩, h.n5, h.i5⟩
/-- An item more whose value lies nowhere. -/
theorem TF.leaf {lo : Nat} {w5 : World} {ns : List (List UInt8)} {acc : List J} {nv iv : Value} {wr wS w2 : World} {g cp : Nat} {vs : List Value} {c0 c1 c2 c3 c4 c5 : Value} {j : J} (h : TF lo w5 ns acc nv iv wr) (hO : Own3 lo 15 nv iv ns vs acc wr) (hgrow : wS.grownBy w2 iv.ownBlock) (hBS : Below wr.heap.size wr wS) (hat : iv.ownBlock = some g ∨ wr.heap.size ≤ g)
    (hown : w2.ownsRow lo 45 6 (.slice (some ⟨g, 0, none⟩) (acc.length + 1) cp) (acc.length + 1) (vs.flatMap aggC ++ [c0, c1, c2, c3, c4, c5])) (hJ : ∀ S w, JAt S w 15 (.agg #[c0, c1, c2, c3, c4, c5]) j) : TF lo w5 ns (acc ++ [j]) nv (.slice (some ⟨g, 0, none⟩) (acc.length + 1) cp) w2 := h.item hO hgrow hBS hat hown (hJ _ _)
theorem backN_take (n : List UInt8) : ∀ p, p < 6 → (backN n).take (6 - p) = (backN n).take (6 - (p + 1)) ++ [namesO.getD p []] := fun p hp => by
  obtain rfl | rfl | rfl | rfl | rfl | rfl : p = 0 ∨ p = 1 ∨ p = 2 ∨ p = 3 ∨ p = 4 ∨ p = 5 := by omega
  all_goals rfl
theorem backI_take (x : O) : ∀ p, p < 6 → (backI x).take (6 - p) = (backI x).take (6 - (p + 1)) ++ [(itemsO x).getD p j0] := fun p hp => by
  obtain rfl | rfl | rfl | rfl | rfl | rfl : p = 0 ∨ p = 1 ∨ p = 2 ∨ p = 3 ∨ p = 4 ∨ p = 5 := by omega
  all_goals rfl
theorem mkL_all8 : ∀ (r : List (List UInt8)) (s : List J) (ns : List (List UInt8)) (is : List J), r.length = s.length → r.Nodup → (∀ x ∈ r, x ∉ ns) → mkL r s ns is = (ns ++ r, is ++ s)
  | [], [], ns, is, _, _, _ => by rw [mkL, List.append_nil, List.append_nil]
  | x :: r, y :: s, ns, is, hl, hd, hn => by
    have hx : ns.contains x = false := by simpa using hn x (List.mem_cons_self ..)
    obtain ⟨d1, d2⟩ := List.nodup_cons.1 hd
    rw [mkL, if_neg (by rw [hx]; decide), mkL_all8 r s (ns ++ [x]) (is ++ [y]) (by simpa using hl) d2 (fun z hz hm => by
      rcases List.mem_append.1 hm with h | h
      · exact hn z (List.mem_cons_of_mem _ hz) h
      · rw [List.mem_singleton] at h
        subst h
        exact d1 hz)]
    simp
  | [], _ :: _, _, _, hl, _, _ => by simp at hl
  | _ :: _, [], _, _, hl, _, _ => by simp at hl
theorem mkJ_all8 {r : List (List UInt8)} {s : List J} (hl : r.length = s.length) (hd : r.Nodup) : mkJ r s = .mk 7 0 0 [] r s := by
  unfold mkJ
  rw [mkL_all8 r s [] [] hl hd (fun x _ => by simp)]
  rfl
theorem backN_nodup (n : List UInt8) : (backN n).Nodup := by
  have h : ∀ m ∈ [edgL, nodL, updL, ordL, serL, hdrL], m ≠ 120 :: n := by
    intro m hm e
    have h2 : ∀ m ∈ [edgL, nodL, updL, ordL, serL, hdrL], m.headD 0 ≠ 120 := by decide
    exact h2 m hm (by rw [e]; rfl)
  show ([edgL, nodL, updL, ordL, serL, hdrL] ++ [120 :: n]).Nodup
  rw [List.nodup_append]
  exact ⟨by decide, by simp, fun a ha b hb => by simp at hb; subst hb; exact h a ha⟩
theorem mk_backO (x : O) (n : List UInt8) : mkJ (backN n) (backI x) = backJ x n := mkJ_all8 rfl (backN_nodup n)
theorem mk_lessO (x : O) (n : List UInt8) (k : Nat) : mkJ ((backN n).eraseIdx k) ((backI x).eraseIdx k) = lessJ x n k := mkJ_all8 (by rw [List.length_eraseIdx, List.length_eraseIdx]; rfl) ((backN_nodup n).sublist (List.eraseIdx_sublist ..))
theorem make_back8 {lo : Nat} {w5 : World} {n : List UInt8} {y : O} {nv iv : Value} {wr : World} (h : TF lo w5 (backN n) (backI y) nv iv wr) : Calls Tryz.prog 31 #[nv, iv] wr (CRet wr 16 (backJ y n)) := by
  obtain ⟨vs, hO⟩ := h.own
  obtain ⟨ai, ci, rfl⟩ := own_slice hO.irow
  obtain ⟨an, cn, rfl⟩ := own_slice hO.nrow
  have l1 : (backN n).length = 7 := rfl
  have l2 : (backI y).length = 7 := rfl
  rw [← mk_backO]
  exact make5_any Any Any 15 wr an cn ai ci (backN n) (backI y) (hO.strs (by omega)) (by omega) hO.its.2.1 hO.its.2.2 (by omega)
theorem backN_txt {n : List UInt8} (h : n.length ≤ 100) : ∀ x ∈ backN n, txtB x := fun x hx => by
  have h2 : ∀ m ∈ [edgL, nodL, updL, ordL, serL, hdrL], m.length ≤ 20 := by decide
  unfold backN at hx
  rcases List.mem_append.1 (show x ∈ [edgL, nodL, updL, ordL, serL, hdrL] ++ [120 :: n] from hx) with h3 | h3
  · have := h2 x h3; unfold txtB; omega
  · simp at h3; subst h3; unfold txtB; simp; omega
/-- What the two rows of OrderForms are. -/
def rx8 (k : Nat) (ns : List (List UInt8)) (vs : List Value) : RX := ⟨k, 6, (ns.take k).map strW, (ns.eraseIdx k).map strW, k, 6, (vs.take k).flatMap aggC, (vs.eraseIdx k).flatMap aggC⟩
theorem names_len7 {ns : List (List UInt8)} (e : ns.length = 7) (k : Nat) (hk : k < 6) : ((ns.take k).map strW).length = k * 1 ∧ ((ns.drop (k + 1)).map strW).length = (6 - k) * 1 ∧ (ns.eraseIdx k).length = 6 := by
  rw [List.length_map, List.length_map, List.length_take, List.length_drop, List.length_eraseIdx, e, if_pos (by omega)]
  omega
theorem names_join (ns : List (List UInt8)) (k : Nat) : (ns.take k).map strW ++ (ns.drop (k + 1)).map strW = (ns.eraseIdx k).map strW := by
  rw [List.eraseIdx_eq_take_drop_succ, List.map_append]
theorem items_len7 {vs : List Value} (hv : vs.length = 7) (h6 : ∀ v ∈ vs, (aggC v).length = 6) (k : Nat) (hk : k < 6) : ((vs.take k).flatMap aggC).length = k * 6 ∧ ((vs.drop (k + 1)).flatMap aggC).length = (6 - k) * 6 ∧ (vs.eraseIdx k).length = 6 := by
  rw [flat_len6 (fun v hv => h6 v (List.mem_of_mem_take hv)), flat_len6 (fun v hv => h6 v (List.mem_of_mem_drop hv)), List.length_take, List.length_drop, List.length_eraseIdx, hv, if_pos (by omega)]
  omega
/-- Rows of one's own, read cell by cell. -/
theorem Own3.read {lo : Nat} {nv iv : Value} {ns : List (List UInt8)} {vs : List Value} {acc : List J} {w : World} (h : Own3 lo 15 nv iv ns vs acc w) (hn : 0 < ns.length) (ha : 0 < acc.length) : ∃ bn cn bi ci, nv = .slice (some ⟨bn, 0, none⟩) ns.length cn ∧ iv = .slice (some ⟨bi, 0, none⟩) acc.length ci ∧ ns.length ≤ cn ∧ acc.length ≤ ci ∧ bn < w.heap.size ∧ bi < w.heap.size ∧
    (∀ i, i < ns.length → w.cell? ⟨bn, 0 + i, none⟩ = some (strW (ns.getD i []))) ∧ (∀ i, i < acc.length → LiesAt w bi (0 + i * 6) (vs.getD i undef)) := by
  have h6 : ∀ v ∈ vs, (aggC v).length = 6 := fun v hv => by
    obtain ⟨i, hi, rfl⟩ := List.mem_iff_getElem.1 hv
    have hJ := h.items i (by rw [← h.vl]; exact hi)
    obtain ⟨_, _, _, _, _, _, _, _, _, _, e⟩ := jAt_form hJ
    rw [List.getD_eq_getElem?_getD, List.getElem?_eq_getElem hi] at e
    simp only [Option.getD_some] at e
    rw [e]; rfl
  rcases h.nrow.2 with ⟨e, h0⟩ | ⟨bn, cn, cur, hv, hbg, hg, hnc, _⟩
  · omega
  · rcases h.irow.2 with ⟨e', h0'⟩ | ⟨bi, ci, cur', hv', hbg', hg', hnc', _⟩
    · omega
    · have hnr := h.nrow
      have hir := h.irow
      rw [hv] at hnr
      rw [hv'] at hir
      refine ⟨bn, cn, bi, ci, hv, hv', hnc, hnc', Own.block_lt hg, Own.block_lt hg', fun i hi => ?_, fun i hi q c hc => ?_⟩
      · rw [Nat.zero_add, hnr.cellAt i (by omega), List.getElem?_map, List.getElem?_eq_getElem hi, List.getD_eq_getElem?_getD, List.getElem?_eq_getElem hi]
        rfl
      · have hi2 : i < vs.length := by rw [h.vl]; exact hi
        have hq : q < 6 := by
          have := (List.getElem?_eq_some_iff.1 hc).1
          rw [h6 _ (by rw [List.getD_eq_getElem?_getD, List.getElem?_eq_getElem hi2]; exact List.getElem_mem _)] at this
          exact this
        rw [Nat.zero_add, hir.cellAt (i * 6 + q) (by omega), flat6_get h6 i q hi2 hq, hc]
end Go.Proofs.YtcpggmdiojaalaaGreatDoor.Od
