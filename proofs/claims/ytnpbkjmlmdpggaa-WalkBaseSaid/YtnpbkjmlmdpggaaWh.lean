import Derived.Test.YtnpbkjmlmdpggaaWg
import Derived.Test.YtnpbkjmlmdpggaaYj
/- Order over a path: what is put together. -/
set_option linter.unusedVariables false
set_option linter.unusedSimpArgs false
namespace Go.Proofs.Ytnpbkjmlmdpggaa.Wk
open Go.RowKit Go.Shelf Ly Od
attribute [local go_sem] Oper.semAt_some

theorem own_apart {w : World} {b1 b2 : Nat} {e1 e2 : TypeId} {s1 s2 n1 n2 : Nat} {v1 v2 : Value} {x1 x2 : List Value} (h1 : w.ownsRow b1 e1 s1 v1 n1 x1) (h2 : w.ownsRow b2 e2 s2 v2 n2 x2) (he : e1 ≠ e2) :
    v2.ownBlock = none ∨ v2.ownBlock ≠ v1.ownBlock := by
  rcases h2.2 with ⟨rfl, _⟩ | ⟨g2, c2, u2, rfl, _, hg2, _⟩
  · exact .inl rfl
  · right
    rcases h1.2 with ⟨rfl, _⟩ | ⟨g1, c1, u1, rfl, _, hg1, _⟩
    · simp [Value.ownBlock]
    · simp only [Value.ownBlock, ne_eq, Option.some.injEq]
      rintro rfl
      rw [hg1] at hg2
      simp only [Option.some.injEq, Obj.cells.injEq] at hg2
      exact he hg2.2.1
/-- An element more, in a round: rows of unlike elements stay. -/
theorem appendIn {F : Fence} {n : Nat} {P : Program} {W : World} {ops : Array Oper} {rest : List Oper} {o : Oper} {a : Act} {Q : Exit → Act → World → Prop} (hgd : o.guard = none) (s x : Operand) {Ts T : TypeId} {size bytes : Nat} {z : Value}
    (hinfo : (P.info? T).map (fun i => (i.zero, i.size, i.bytes)) = some (some z, size, bytes)) (hz : z.cells.size = size) (hsz : 0 < size) (hu : P.underlying Ts = some (.slice T))
    (ho : o.op = .call { callee := .builtin .append, args := #[s, x], argTypes := #[Ts, Ts] }) (base : Nat) (v : Value) (k : Nat) (xs : List Value) (hs : a.eval s = v) (hown : W.ownsRow base T size v k xs)
    (B c : Nat) (hx : a.eval x = .slice (some ⟨B, 0, none⟩) 1 c) (news : List Value) (hl : news.length = size) (hB : W.heap[B]? = some (.cells news.toArray T (0, 0))) (hone : ∀ u ∈ news, u.oneCell' = true)
    (hlen : (k + 1) * bytes ≤ 140737488355328) (hmax : k + 1 ≤ maxLen) (hbase : base ≤ W.heap.size)
    (h : ∀ g' c' w', w'.ownsRow base T size (.slice (some ⟨g', 0, none⟩) (k + 1) c') (k + 1) (xs ++ news) → Below base W w' → (∀ b2 e2 s2 v2 n2 x2, T ≠ e2 → W.ownsRow b2 e2 s2 v2 n2 x2 → w'.ownsRow b2 e2 s2 v2 n2 x2) → wpListIn F n P ops Q rest (a.put o.dst (.slice (some ⟨g', 0, none⟩) (k + 1) c')) w') : wpListIn F n P ops Q (o :: rest) a W := by
  obtain ⟨i0, hi0, hz0, hz1, hz2⟩ := info_parts hinfo
  refine wpListIn_append_own W hgd s x Ts ho base T i0 _ size bytes hu hi0 hz0 hz1 hz2 hz hsz v k xs hs hown ⟨B, 0, none⟩ 1 c news hx (by omega) ?_ hone hmax hlen hbase ?_
  · intro j u hu
    rw [show (⟨B, 0, none⟩ : Addr).add j = ⟨B, j, none⟩ by simp only [Addr.add]; split <;> simp_all, cell_of_row W B j _ _ _ hB]
    simpa using hu
  · intro v' w' h2 h3 _
    obtain ⟨g', c', rfl⟩ := ownsRow_succ h2
    exact h g' c' w' h2 ((Below.refl _ _).grown h3 hbase (fun k hk => (World.ownsRow.lt hown k hk).1)) (fun b2 e2 s2 v2 n2 x2 he h4 => h4.kept h3 (own_apart hown h4 he))

/-- The number of a node or an edge, as it is counted. -/
def sq (q : Int) (k : Nat) : Int := IntKind.i64.wrap (q + (k : Int))
theorem sq_next (q : Int) (k : Nat) : IntKind.i64.wrap (sq q k + 1) = sq q (k + 1) := by
  unfold sq
  rw [IntKind.wrap_i64, IntKind.wrap_i64, IntKind.wrap_i64]
  omega
theorem sq_zero {q : Int} (h : Js.i64B q) : sq q 0 = q := by
  unfold sq Js.i64B at *
  rw [IntKind.wrap_i64]
  omega
theorem sq_in (q : Int) (k : Nat) : Js.i64B (sq q k) := by
  unfold sq Js.i64B
  rw [IntKind.wrap_i64]
  omega
theorem sq_small {q : Int} (h : numB q = true) {k : Nat} (hk : k ≤ 127) : sq q k = q + k := by
  have := numB_iff h
  unfold sq
  rw [IntKind.wrap_i64]
  omega
def ndW (p : List Int) (q r : Int) (n : Nat) : List St := (List.range n).map fun (j : Nat) => ⟨ati p (2 * j), sq q (2 * j), decide ((j : Int) < r)⟩
def edW (p : List Int) (q r : Int) (n : Nat) : List St := (List.range n).map fun (j : Nat) => ⟨ati p (2 * j + 1) - 1000, sq q (2 * j + 1), decide ((j : Int) + 1 < r)⟩
theorem ndW_len (p : List Int) (q r : Int) (n : Nat) : (ndW p q r n).length = n := by simp [ndW]
theorem edW_len (p : List Int) (q r : Int) (n : Nat) : (edW p q r n).length = n := by simp [edW]
theorem ndW_succ (p : List Int) (q r : Int) (n : Nat) : ndW p q r (n + 1) = ndW p q r n ++ [⟨ati p (2 * n), sq q (2 * n), decide ((n : Int) < r)⟩] := by simp [ndW, List.range_succ]
theorem edW_succ (p : List Int) (q r : Int) (n : Nat) : edW p q r (n + 1) = edW p q r n ++ [⟨ati p (2 * n + 1) - 1000, sq q (2 * n + 1), decide ((n : Int) + 1 < r)⟩] := by simp [edW, List.range_succ]
def overW (h : Int) (v : List UInt8) (o u : Int) (p : List Int) (q r : Int) : O := ⟨h, v, o, u, ndW p q r ((min p.length 127 + 1) / 2), edW p q r (min p.length 127 / 2)⟩
theorem nd_small (p : List Int) {q : Int} (r : Int) (hq : numB q = true) {n : Nat} (hn : n ≤ 64) : ndW p q r n = ndL p q r n := by
  unfold ndW ndL
  refine List.map_congr_left fun j hj => ?_
  have := List.mem_range.1 hj
  rw [sq_small hq (by omega)]
  simp [ati, pi]
theorem ed_small (p : List Int) {q : Int} (r : Int) (hq : numB q = true) {n : Nat} (hn : n ≤ 63) : edW p q r n = edL p q r n := by
  unfold edW edL
  refine List.map_congr_left fun j hj => ?_
  have := List.mem_range.1 hj
  rw [sq_small hq (by omega)]
  simp [ati, pi]
  omega
theorem over_small {h : Int} {v : List UInt8} {o u : Int} {p : List Int} {q r : Int} (hq : numB q = true) : overW h v o u p q r = overO h v o u p q r := by
  unfold overW overO
  rw [nd_small p r hq (by omega), ed_small p r hq (by omega), show (min p.length 127 + 1) / 2 = min ((p.length + 1) / 2) 64 by omega, show min p.length 127 / 2 = min (p.length / 2) 63 by omega]
theorem right_head {nm : List UInt8 → Bool} {x : O} (h : rightO nm x = true) : numB (x.ns.headD st0).seq = true := by
  unfold rightO at h
  simp only [Bool.and_eq_true, decide_eq_true_eq] at h
  obtain ⟨_, _, _, _, h1, _, _, _, _, h4, _⟩ := h
  obtain ⟨hd, vn, oi, ui, ns, es⟩ := x
  simp only at h1 h4 ⊢
  rcases ns with _ | ⟨a, t⟩
  · simp at h1
  · exact (nodes_nums h4 a (by simp)).2
theorem head_of {f : Nat → St} {n : Nat} (h : 0 < n) : ((List.range n).map f).headD st0 = f 0 := by
  obtain ⟨m, rfl⟩ : ∃ m, n = m + 1 := ⟨n - 1, by omega⟩
  simp [List.range_succ_eq_map]
/-- What Order answers, by what it puts together. -/
theorem order_wrap {nm : List UInt8 → Bool} {h : Int} {v : List UInt8} {o u : Int} {p : List Int} {q r : Int} (hq : Js.i64B q) (hp : pathB p = true) :
    orderS nm h v o u p q r = if rightO nm (overW h v o u p q r) = true then (overW h v o u p q r, true) else (o0, false) := by
  have hl := (pathB_iff.1 hp).1
  unfold orderS
  rw [hp, Bool.true_and]
  cases e : numB q with
  | true => rw [over_small e]
  | false =>
    have h1 : ¬ rightO nm (overO h v o u p q r) = true := fun hx => by
      have := right_head hx
      unfold overO ndL at this
      simp only at this
      rw [head_of (by omega)] at this
      simp only [Int.natCast_zero, Int.mul_zero, Int.add_zero] at this
      rw [e] at this
      cases this
    have h2 : ¬ rightO nm (overW h v o u p q r) = true := fun hx => by
      have := right_head hx
      unfold overW ndW at this
      simp only at this
      rw [head_of (by omega)] at this
      simp only [Nat.mul_zero, sq_zero hq] at this
      rw [e] at this
      cases this
    rw [if_neg h1, if_neg h2]
theorem half_even {k : Nat} (h : ¬ k % 2 = 1) : (k + 1 + 1) / 2 = (k + 1) / 2 + 1 ∧ (k + 1) / 2 = k / 2 ∧ 2 * ((k + 1) / 2) = k := by omega
theorem half_odd {k : Nat} (h : k % 2 = 1) : (k + 1 + 1) / 2 = (k + 1) / 2 ∧ (k + 1) / 2 = k / 2 + 1 ∧ 2 * (k / 2) + 1 = k := by omega
theorem ati_take {p : List Int} {k i : Nat} (h : i < k) : ati (p.take k) i = ati p i := by simp [ati, List.getD_eq_getElem?_getD, List.getElem?_take, h]
theorem ints_take {w : World} {ao : Option Addr} {c c' : Nat} {l : List Int} (h : IntsAt w (.slice ao l.length c) l) {k : Nat} (hk : k ≤ l.length) : IntsAt w (.slice ao k c') (l.take k) := by
  obtain ⟨ao', cap, e, h1, h2⟩ := h
  cases e
  have hl : (l.take k).length = k := by rw [List.length_take]; omega
  refine ⟨ao, c', by rw [hl], by omega, fun h0 => ?_⟩
  obtain ⟨b, o, e, hb, hc⟩ := h2 (by omega)
  refine ⟨b, o, e, hb, fun j hj => ?_⟩
  rw [hl] at hj
  rw [ati_take hj]
  exact hc j (by omega)
theorem over_take {h : Int} {v : List UInt8} {o u : Int} {p : List Int} {q r : Int} {M : Nat} (hM : M = min p.length 127) : overW h v o u p q r = ⟨h, v, o, u, ndW (p.take M) q r ((M + 1) / 2), edW (p.take M) q r (M / 2)⟩ := by
  unfold overW ndW edW
  rw [← hM]
  congr 1
  · refine List.map_congr_left fun j hj => ?_
    have := List.mem_range.1 hj
    rw [ati_take (by omega)]
  · refine List.map_congr_left fun j hj => ?_
    have := List.mem_range.1 hj
    rw [ati_take (by omega)]
/-- Between two elements: what has been put together. -/
structure OI (h : Int) (sv : ByteArray) (o u : Int) (w : World) (base bb sb rb xb : Nat) (p : List Int) (q r : Int) (nv ev : Value) (k : Nat) (W : World) : Prop where
  a0 : HoldsA W bb 0 (.int .i64 h)
  a1 : HoldsA W bb 1 (.string sv)
  a2 : HoldsA W bb 2 (.int .i64 o)
  a3 : HoldsA W bb 3 (.int .i64 u)
  a4 : HoldsA W bb 4 nv
  a5 : HoldsA W bb 5 ev
  nodes : W.ownsRow base 52 3 nv ((k + 1) / 2) (cellsS (ndW p q r ((k + 1) / 2)))
  edges : W.ownsRow base 60 3 ev (k / 2) (cellsS (edW p q r (k / 2)))
  seq : HoldsA W sb 0 (.int .i64 (sq q k))
  rel : HoldsA W rb 0 (.int .i64 r)
  res : ∀ (j : Nat) (v : Value), (#[.int .i64 0, .string ⟨#[]⟩, .int .i64 0, .int .i64 0, .slice none 0 0, .slice none 0 0] : Array Value)[j]? = some v → HoldsA W xb j v
  bel : Below w.heap.size w W
/-- Where the boxes lie. -/
structure Lies (w : World) (bb sb rb xb : Nat) : Prop where
  s : sb < bb
  r : rb < bb
  x : xb < bb
  ws : w.heap.size < sb
  wr : w.heap.size < rb
  wx : w.heap.size < xb
  sr : sb ≠ rb
  sx : sb ≠ xb
section
variable {h : Int} {sv : ByteArray} {o u : Int} {w : World} {base bb sb rb xb : Nat} {p : List Int} {q r : Int} {nv ev : Value} {k : Nat} {X Y : World}
theorem OI.gw {B : Nat} (hI : OI h sv o u w base bb sb rb xb p q r nv ev k X) (g : Gw B X Y) (h1 : bb < B) (h2 : B + 2 ≤ base) (l : Lies w bb sb rb xb) : OI h sv o u w base bb sb rb xb p q r nv ev k Y := by
  have hs := l.s; have hr := l.r; have hx := l.x; have hw := l.ws
  exact ⟨hI.a0.gw g h1, hI.a1.gw g h1, hI.a2.gw g h1, hI.a3.gw g h1, hI.a4.gw g h1, hI.a5.gw g h1, own_gw hI.nodes g h2, own_gw hI.edges g h2, hI.seq.gw g (by omega), hI.rel.gw g (by omega), fun j v hv => (hI.res j v hv).gw g (by omega), below_gw hI.bel g (by omega) (Nat.le_refl _)⟩
/-- A node, or an edge, is put behind. -/
theorem OI.node (hI : OI h sv o u w base bb sb rb xb p q r nv ev k X) (l : Lies w bb sb rb xb) (h1 : bb < base) (hk : ¬ k % 2 = 1) {w3 : World} {v3 : Value} {m e : Nat} {x s0 s1 : Int} {b : Bool} (hm : m = (k + 1) / 2) (he : e = k / 2) (hx : x = ati p k) (h0 : s0 = sq q k) (hs1 : s1 = sq q (k + 1)) (hb3 : b = decide ((m : Int) < r)) (hb : Below base X w3)
    (hown : w3.ownsRow base 52 3 v3 (m + 1) (cellsS (ndW p q r m) ++ [.int .i64 x, .int .i64 s0, .bool b])) (hoth : w3.ownsRow base 60 3 ev e (cellsS (edW p q r e))) :
    OI h sv o u w base bb sb rb xb p q r v3 ev (k + 1) ((w3.setCell ⟨bb, 4, none⟩ v3).setCell ⟨sb, 0, none⟩ (.int .i64 s1)) := by
  have hs := l.s; have hr := l.r; have hx2 := l.x; have hw := l.ws; have hsr := l.sr; have hsx := l.sx; have hww := l.wr
  obtain ⟨e1, e2, e3⟩ := half_even hk
  subst hm he hx h0 hs1 hb3
  have kp : ∀ {b' o' : Nat} {v' : Value}, b' < base → HoldsA X b' o' v' → b' ≠ sb → (b' ≠ bb ∨ o' ≠ 4) → HoldsA ((w3.setCell ⟨bb, 4, none⟩ v3).setCell ⟨sb, 0, none⟩ (.int .i64 (sq q (k + 1)))) b' o' v' := fun h2 h3 h4 h5 => ((h3.below hb h2).other (by omega) _).other (.inl h4) _
  refine ⟨kp h1 hI.a0 (by omega) (by omega), kp h1 hI.a1 (by omega) (by omega), kp h1 hI.a2 (by omega) (by omega), kp h1 hI.a3 (by omega) (by omega), ((hI.a4.below hb h1).set _).other (by omega) _, kp h1 hI.a5 (by omega) (by omega), ?_, ?_, ((hI.seq.below hb (by omega)).other (by omega) _).set _, kp (by omega) hI.rel (by omega) (by omega), fun j v hv => kp (by omega) (hI.res j v hv) (by omega) (by omega), ?_⟩
  · rw [e1, ndW_succ, cellsS_app, e3]
    exact ownsRow_setCell_below (ownsRow_setCell_below hown (by show bb < _; omega) _) (by show sb < _; omega) _
  · rw [e2]
    exact ownsRow_setCell_below (ownsRow_setCell_below hoth (by show bb < _; omega) _) (by show sb < _; omega) _
  · exact ((hI.bel.trans (hb.mono (by omega))).setCell (p := ⟨bb, 4, none⟩) (by show _ ≤ bb; omega) _).setCell (p := ⟨sb, 0, none⟩) (by show _ ≤ sb; omega) _
theorem OI.edge (hI : OI h sv o u w base bb sb rb xb p q r nv ev k X) (l : Lies w bb sb rb xb) (h1 : bb < base) (hk : k % 2 = 1) {w3 : World} {v3 : Value} {m e : Nat} {x s0 s1 : Int} {b : Bool} (hm : m = (k + 1) / 2) (he : e = k / 2) (hx : x = ati p k) (h0 : s0 = sq q k) (hs1 : s1 = sq q (k + 1)) (hb3 : b = decide ((m : Int) < r)) (hb : Below base X w3)
    (hown : w3.ownsRow base 60 3 v3 (e + 1) (cellsS (edW p q r e) ++ [.int .i64 (x - 1000), .int .i64 s0, .bool b])) (hoth : w3.ownsRow base 52 3 nv m (cellsS (ndW p q r m))) :
    OI h sv o u w base bb sb rb xb p q r nv v3 (k + 1) ((w3.setCell ⟨bb, 5, none⟩ v3).setCell ⟨sb, 0, none⟩ (.int .i64 s1)) := by
  have hs := l.s; have hr := l.r; have hx2 := l.x; have hw := l.ws; have hsr := l.sr; have hsx := l.sx; have hww := l.wr
  obtain ⟨e1, e2, e3⟩ := half_odd hk
  subst hm he hx h0 hs1 hb3
  have kp : ∀ {b' o' : Nat} {v' : Value}, b' < base → HoldsA X b' o' v' → b' ≠ sb → (b' ≠ bb ∨ o' ≠ 5) → HoldsA ((w3.setCell ⟨bb, 5, none⟩ v3).setCell ⟨sb, 0, none⟩ (.int .i64 (sq q (k + 1)))) b' o' v' := fun h2 h3 h4 h5 => ((h3.below hb h2).other (by omega) _).other (.inl h4) _
  refine ⟨kp h1 hI.a0 (by omega) (by omega), kp h1 hI.a1 (by omega) (by omega), kp h1 hI.a2 (by omega) (by omega), kp h1 hI.a3 (by omega) (by omega), kp h1 hI.a4 (by omega) (by omega), ((hI.a5.below hb h1).set _).other (by omega) _, ?_, ?_, ((hI.seq.below hb (by omega)).other (by omega) _).set _, kp (by omega) hI.rel (by omega) (by omega), fun j v hv => kp (by omega) (hI.res j v hv) (by omega) (by omega), ?_⟩
  · rw [e1]
    exact ownsRow_setCell_below (ownsRow_setCell_below hoth (by show bb < _; omega) _) (by show sb < _; omega) _
  · rw [show (k + 1) / 2 = k / 2 + 1 by omega, edW_succ, cellsS_app, e3, show ((k / 2 : Nat) : Int) + 1 = (((k + 1) / 2 : Nat) : Int) by omega]
    exact ownsRow_setCell_below (ownsRow_setCell_below hown (by show bb < _; omega) _) (by show sb < _; omega) _
  · exact ((hI.bel.trans (hb.mono (by omega))).setCell (p := ⟨bb, 5, none⟩) (by show _ ≤ bb; omega) _).setCell (p := ⟨sb, 0, none⟩) (by show _ ≤ sb; omega) _
end
theorem kv_store2 {U : Nat → Prop} {W w1 : World} {base b o b' o' : Nat} (h : Below base W w1) (hU : ∀ k, U k → k < base ∧ k ≠ b ∧ k ≠ b') (v v' : Value) : Kv U W ((w1.setCell ⟨b, o, none⟩ v).setCell ⟨b', o', none⟩ v') :=
  ⟨by simpa [World.setCell] using h.size, fun k hk => (Below.heap_setCell _ ⟨b', o', none⟩ v' k (hU k hk).2.2).trans ((Below.heap_setCell w1 ⟨b, o, none⟩ v k (hU k hk).2.1).trans (h.block k (hU k hk).1))⟩
/-- Six cells, written. -/
def set6 (W : World) (b : Nat) (v0 v1 v2 v3 v4 v5 : Value) : World := (((((W.setCell ⟨b, 0, none⟩ v0).setCell ⟨b, 1, none⟩ v1).setCell ⟨b, 2, none⟩ v2).setCell ⟨b, 3, none⟩ v3).setCell ⟨b, 4, none⟩ v4).setCell ⟨b, 5, none⟩ v5
theorem set6_cells {W : World} {b : Nat} {u0 u1 u2 u3 u4 u5 : Value} (h0 : HoldsA W b 0 u0) (h1 : HoldsA W b 1 u1) (h2 : HoldsA W b 2 u2) (h3 : HoldsA W b 3 u3) (h4 : HoldsA W b 4 u4) (h5 : HoldsA W b 5 u5) (v0 v1 v2 v3 v4 v5 : Value) :
    HoldsA (set6 W b v0 v1 v2 v3 v4 v5) b 0 v0 ∧ HoldsA (set6 W b v0 v1 v2 v3 v4 v5) b 1 v1 ∧ HoldsA (set6 W b v0 v1 v2 v3 v4 v5) b 2 v2 ∧ HoldsA (set6 W b v0 v1 v2 v3 v4 v5) b 3 v3 ∧ HoldsA (set6 W b v0 v1 v2 v3 v4 v5) b 4 v4 ∧ HoldsA (set6 W b v0 v1 v2 v3 v4 v5) b 5 v5 :=
  ⟨(((((h0.set _).other (by omega) _).other (by omega) _).other (by omega) _).other (by omega) _).other (by omega) _,
   (((((h1.other (by omega) _).set _).other (by omega) _).other (by omega) _).other (by omega) _).other (by omega) _,
   (((((h2.other (by omega) _).other (by omega) _).set _).other (by omega) _).other (by omega) _).other (by omega) _,
   (((((h3.other (by omega) _).other (by omega) _).other (by omega) _).set _).other (by omega) _).other (by omega) _,
   (((((h4.other (by omega) _).other (by omega) _).other (by omega) _).other (by omega) _).set _).other (by omega) _,
   (((((h5.other (by omega) _).other (by omega) _).other (by omega) _).other (by omega) _).other (by omega) _).set _⟩
theorem set6_block (W : World) {b k : Nat} (h : k ≠ b) (v0 v1 v2 v3 v4 v5 : Value) : (set6 W b v0 v1 v2 v3 v4 v5).heap[k]? = W.heap[k]? := by
  unfold set6
  have e : ∀ (w : World) (j : Nat) (v : Value), (w.setCell ⟨b, j, none⟩ v).heap[k]? = w.heap[k]? := fun w j v => Below.heap_setCell w ⟨b, j, none⟩ v k h
  rw [e, e, e, e, e, e]
theorem set6_below {n : Nat} {W0 W : World} (h : Below n W0 W) {b : Nat} (hb : n ≤ b) (v0 v1 v2 v3 v4 v5 : Value) : Below n W0 (set6 W b v0 v1 v2 v3 v4 v5) :=
  (((((h.setCell (p := ⟨b, 0, none⟩) hb _).setCell (p := ⟨b, 1, none⟩) hb _).setCell (p := ⟨b, 2, none⟩) hb _).setCell (p := ⟨b, 3, none⟩) hb _).setCell (p := ⟨b, 4, none⟩) hb _).setCell (p := ⟨b, 5, none⟩) hb _
/-- A block that holds no orders. -/
def NotO (w : World) (b : Nat) : Prop := ∀ row fr, w.heap[b]? ≠ some (.cells row 25 fr)
theorem NotO.keep {w w' : World} {b : Nat} (h : NotO w b) (e : w'.heap[b]? = w.heap[b]?) : NotO w' b := fun row fr => by rw [e]; exact h row fr
/-- An order whose memory holds no orders. -/
theorem OAt.keepN {w w' : World} {v : Value} {x : O} {S : Nat → Prop} (h : OAt S w v x) (hS : ∀ b, S b → NotO w b) (hk : ∀ b, NotO w b → b < w.heap.size → w'.heap[b]? = w.heap[b]?) (hs : w.heap.size ≤ w'.heap.size) : OAt (NotO w') w' v x :=
  h.keep (fun b hb hl => (hS b hb).keep (hk b (hS b hb) hl)) (fun b hb hl => hk b (hS b hb) hl) hs
theorem sts_ownN {w : World} {base T : Nat} {v : Value} {l : List St} (h : w.ownsRow base T 3 v l.length (cellsS l)) (hT : T ≠ 25) (hl : l.length ≤ 5864062014805) (hg : ∀ x ∈ l, goodS x) : StsAt (fun b => base ≤ b ∧ NotO w b) w v l := by
  rcases h.2 with ⟨e, h0⟩ | ⟨g, cap, cur, hv, hbg, hc, hnc, hcm, hcs, htake⟩
  · subst e
    have : l = [] := List.length_eq_zero_iff.1 h0
    subst this
    exact sts_nil
  · subst hv
    refine ⟨_, _, rfl, hnc, hl, hg, fun _ => ⟨g, 0, rfl, ⟨hbg, fun row fr e => by rw [hc] at e; cases e; exact hT rfl⟩, Own.block_lt hc, fun i hi q c hq => ?_⟩⟩
    have hq3 : q < 3 := by simpa [Js.aggC, stV] using (List.getElem?_eq_some_iff.1 hq).1
    rw [Nat.zero_add, h.cellAt (i * 3 + q) (by omega), cellsS_get l i q hi hq3, hq]
end Go.Proofs.Ytnpbkjmlmdpggaa.Wk
