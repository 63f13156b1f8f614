import Derived.Test.YtcpggmdiojaalaaGreatDoorMOa
import Derived.Test.YtcpggmdiojaalaaGreatDoorRows
import Derived.OpenShut
import Derived.JoinedCond
import Derived.JoinedOf
import Derived.SizedLaws
import Derived.Carry
import Derived.ChangeSlices
import Derived.ChangeSame
import Derived.Deep.DeepHandedRow
import Derived.Deep.Slices
import Derived.Lib.SmallJoins
/- What opens the arguments of stage 8's laws: orders. The numbers of the types of stops and ways are given. -/
set_option linter.unusedVariables false
set_option linter.unusedSimpArgs false
set_option linter.constructorNameAsVariable false
namespace Go.Proofs.YtcpggmdiojaalaaGreatDoor.Od
open Go.ChangeShapes Go.WideShapes Go.ChangeAt Go.RowKit Js Lex

theorem own : ownKnob Tryz.prog.godebug = none := by kernel_rfl
theorem laidOut : laidOutB Tryz.prog = true := by kernel_rfl
theorem cellsInt : Tryz.prog.cellsOf 3 = 1 := by kernel_rfl
theorem cellsBool : Tryz.prog.cellsOf 4 = 1 := by kernel_rfl
theorem cellsStr : Tryz.prog.cellsOf 9 = 1 := by kernel_rfl
theorem reach_eq : reachBytes = 140737488351232 := by decide +kernel
theorem cell_lt {w : World} {b o : Nat} {v : Value} (h : w.cell? ⟨b, o, none⟩ = some v) : b < w.heap.size := by
  rcases Nat.lt_or_ge b w.heap.size with h' | h'
  · exact h'
  · simp [World.cell?, Array.getElem?_eq_none h'] at h
theorem add_plain (b off j : Nat) : (⟨b, off, none⟩ : Addr).add j = ⟨b, off + j, none⟩ := by
  simp only [Addr.add]; split <;> simp_all
theorem i64B_of' {n : Int} (h : (Lit.int .i64 n).wf = true) : i64B n := bounds_i64 h

/-- All slices and strings within a reading are within reach. -/
def Wt {H : Type} (t : TypeId) (d : DataW H) : Prop := ∀ n ∈ d.weights Tryz.prog t, n ≤ 140737488351232
theorem wt_of {H : Type} {ts : List TypeId} {ds : List (DataW H)} (h : (DataW.weightsEach Tryz.prog ts ds).all (· ≤ reachBytes) = true) {j : Nat} {t : TypeId} {d : DataW H} (ht : ts[j]? = some t) (hd : ds[j]? = some d) : Wt t d := fun n hn => by
  have := List.all_eq_true.1 h n (DataW.weights_mem_each ht hd n hn)
  rw [← reach_eq]
  simpa using this
theorem weights_all_mem {H : Type} {P : Program} {e : TypeId} : ∀ {l : List (DataW H)} {d : DataW H}, d ∈ l → ∀ n ∈ d.weights P e, n ∈ DataW.weightsAll P e l
  | [], d, h, _, _ => by simp at h
  | x :: r, d, h, n, hn => by
    rw [DataW.weightsAll]
    rcases List.mem_cons.1 h with rfl | h
    · exact List.mem_append_left _ hn
    · exact List.mem_append_right _ (weights_all_mem h n hn)
theorem wt_slice {H : Type} {t e : TypeId} {elems spare : List (DataW H)} (hu : Tryz.prog.underlying t = some (.slice e)) (h : Wt t (.slice elems spare)) : elems.length * Tryz.prog.bytesOf e ≤ 140737488351232 ∧ ∀ d ∈ elems, Wt e d := by
  unfold Wt at h
  rw [DataW.weights, hu] at h
  refine ⟨?_, fun d hd n hn => h n (List.mem_cons_of_mem _ (List.mem_append_left _ (weights_all_mem hd n hn)))⟩
  have := h _ (List.mem_cons_self ..)
  have h2 : elems.length * Tryz.prog.bytesOf e ≤ (elems.length + spare.length) * Tryz.prog.bytesOf e := Nat.mul_le_mul_right _ (Nat.le_add_right _ _)
  omega
theorem wt_part {H : Type} {t : TypeId} {fs : Array Field} {parts : List (DataW H)} (hu : Tryz.prog.underlying t = some (.struct fs)) (h : Wt t (.agg parts)) {j : Nat} {tj : TypeId} {d : DataW H} (ht : (fs.toList.map (·.type))[j]? = some tj) (hd : parts[j]? = some d) : Wt tj d := fun n hn => by
  unfold Wt at h
  rw [DataW.weights, hu] at h
  exact h n (DataW.weights_mem_each ht hd n hn)
theorem wt_string {H : Type} {t : TypeId} {bytes : List UInt8} (h : Wt (H := H) t (.lit (.string bytes))) : bytes.length ≤ 140737488351232 := by
  unfold Wt at h
  rw [DataW.weights] at h
  exact h _ (List.mem_cons_self ..)

theorem trod_struct3O {H : Type} {enc : TypeId × Value → H} {P : Program} {w : World} {base : Nat} {spare : Nat → Bool} {held : Bool} {t : TypeId} {f0 f1 f2 : Field} {fuel : Nat} {cs : List Value} {x : DataW H × List MemPlace} (ht : P.underlying t = some (.struct #[f0, f1, f2])) (h : DataW.trod enc P w base spare held fuel t cs = some x) :
    ∃ y0 y1 y2 n, x.1 = .agg [y0.1, y1.1, y2.1] ∧ cs.length = P.cellsOf t ∧ DataW.trod enc P w base spare held n f0.type ((cs.drop f0.offset).take (P.cellsOf f0.type)) = some y0 ∧
      DataW.trod enc P w base spare held n f1.type ((cs.drop f1.offset).take (P.cellsOf f1.type)) = some y1 ∧ DataW.trod enc P w base spare held n f2.type ((cs.drop f2.offset).take (P.cellsOf f2.type)) = some y2 := by
  obtain ⟨xs, n, _, rfl, hl, hlen, hf⟩ := DataW.trod_struct ht h
  match xs, hlen with
  | [y0, y1, y2], _ => exact ⟨y0, y1, y2, n, by simp, hl, by simpa using hf 0 f0 rfl, by simpa using hf 1 f1 rfl, by simpa using hf 2 f2 rfl⟩
theorem trod_struct6O {H : Type} {enc : TypeId × Value → H} {P : Program} {w : World} {base : Nat} {spare : Nat → Bool} {held : Bool} {t : TypeId} {f0 f1 f2 f3 f4 f5 : Field} {fuel : Nat} {cs : List Value} {x : DataW H × List MemPlace} (ht : P.underlying t = some (.struct #[f0, f1, f2, f3, f4, f5])) (h : DataW.trod enc P w base spare held fuel t cs = some x) :
    ∃ y0 y1 y2 y3 y4 y5 n, x.1 = .agg [y0.1, y1.1, y2.1, y3.1, y4.1, y5.1] ∧ cs.length = P.cellsOf t ∧ DataW.trod enc P w base spare held n f0.type ((cs.drop f0.offset).take (P.cellsOf f0.type)) = some y0 ∧
      DataW.trod enc P w base spare held n f1.type ((cs.drop f1.offset).take (P.cellsOf f1.type)) = some y1 ∧ DataW.trod enc P w base spare held n f2.type ((cs.drop f2.offset).take (P.cellsOf f2.type)) = some y2 ∧
      DataW.trod enc P w base spare held n f3.type ((cs.drop f3.offset).take (P.cellsOf f3.type)) = some y3 ∧ DataW.trod enc P w base spare held n f4.type ((cs.drop f4.offset).take (P.cellsOf f4.type)) = some y4 ∧
      DataW.trod enc P w base spare held n f5.type ((cs.drop f5.offset).take (P.cellsOf f5.type)) = some y5 := by
  obtain ⟨xs, n, _, rfl, hl, hlen, hf⟩ := DataW.trod_struct ht h
  match xs, hlen with
  | [y0, y1, y2, y3, y4, y5], _ => exact ⟨y0, y1, y2, y3, y4, y5, n, by simp, hl, by simpa using hf 0 f0 rfl, by simpa using hf 1 f1 rfl, by simpa using hf 2 f2 rfl, by simpa using hf 3 f3 rfl, by simpa using hf 4 f4 rfl, by simpa using hf 5 f5 rfl⟩

/-- A stop's cells. -/
theorem stop_trod {H : Type} {enc : TypeId × Value → H} {W : World} {base fuel : Nat} {cs : List Value} {x : DataW H × List MemPlace} {tS : TypeId} {f0 f1 f2 : Field} (hs : Tryz.prog.underlying tS = some (.struct #[f0, f1, f2]))
    (a0 : f0.type = 3) (a1 : f1.type = 3) (a2 : f2.type = 4) (o0 : f0.offset = 0) (o1 : f1.offset = 1) (o2 : f2.offset = 2) (hc : Tryz.prog.cellsOf tS = 3)
    (h : DataW.trod enc Tryz.prog W base (fun _ => true) true fuel tS cs = some x) : ∃ y : St, cs = [.int .i64 y.id, .int .i64 y.seq, .bool y.rel] ∧ i64B y.id ∧ i64B y.seq := by
  obtain ⟨y0, y1, y2, n', hx, hcl, t0, t1, t2⟩ := trod_struct3O hs h
  rw [hc] at hcl
  rw [a0, o0] at t0
  rw [a1, o1] at t1
  rw [a2, o2] at t2
  simp only [cellsInt, cellsBool] at t0 t1 t2
  match cs, hcl with
  | [c0, c1, c2], _ =>
    obtain ⟨i, e0, -, w0⟩ := DataW.trod_int Tryz.underlying3 t0
    obtain ⟨q, e1, -, w1⟩ := DataW.trod_int Tryz.underlying3 t1
    obtain ⟨r, e2, -⟩ := DataW.trod_bool Tryz.underlying4 t2
    simp at e0 e1 e2
    subst e0 e1 e2
    exact ⟨⟨i, q, r⟩, rfl, i64B_of' w0, i64B_of' w1⟩
set_option maxRecDepth 100000 in
/-- A slice of stops, or of ways. -/
theorem sts_trod {H : Type} {enc : TypeId × Value → H} {W : World} {base fuel : Nat} {c : Value} {x : DataW H × List MemPlace} {tS tL : TypeId} {f0 f1 f2 : Field} (hu : Tryz.prog.underlying tL = some (.slice tS)) (hs : Tryz.prog.underlying tS = some (.struct #[f0, f1, f2]))
    (a0 : f0.type = 3) (a1 : f1.type = 3) (a2 : f2.type = 4) (o0 : f0.offset = 0) (o1 : f1.offset = 1) (o2 : f2.offset = 2) (hc : Tryz.prog.cellsOf tS = 3) (hby : Tryz.prog.bytesOf tS = 24)
    (hf : DataW.trod enc Tryz.prog W base (fun _ => true) true fuel tL [c] = some x) (hw : Wt tL x.1) : ∃ l, StsAt Any W c l := by
  rcases Deep.open_slice hu hf with ⟨hcs, hx⟩ | ⟨a, len, cap, mm, n2, D, Pl, hcs, hb, hl, hmx, hmm, hx, hel⟩
  · simp at hcs
    subst hcs
    exact ⟨[], sts_nil⟩
  · simp at hcs
    subst hcs
    simp only [if_true] at hmm
    subst hmm
    have hd : x.1 = .slice ((List.range len).map D) ((List.range (mm - len)).map fun j => D (len + j)) := congrArg Prod.fst hx
    rw [hd] at hw
    obtain ⟨hwl, hwe⟩ := wt_slice hu hw
    rw [hby] at hwl
    simp at hwl
    by_cases hl0 : len = 0
    · subst hl0
      exact ⟨[], _, _, rfl, by simp, by simp, fun x hx => by simp at hx, fun h => by simp at h⟩
    · rw [hc] at hel
      have one : ∀ i, i < len → ∃ y : St, (∀ q c, (aggC (stV y))[q]? = some c → W.cell? (a.add (i * 3 + q)) = some c) ∧ i64B y.id ∧ i64B y.seq := by
        intro i hi
        obtain ⟨cs, hcell, ht⟩ := hel i (by omega)
        obtain ⟨_, hcl, hcc⟩ := World.cells?_some hcell
        obtain ⟨y, rfl, hg⟩ := stop_trod hs a0 a1 a2 o0 o1 o2 hc ht
        refine ⟨y, fun q c hq => ?_, hg⟩
        have hq5 : q < 3 := by have := (List.getElem?_eq_some_iff.1 hq).1; simpa [aggC, stV] using this
        have h0 := hcc q (by omega)
        rw [Deep.add_add] at h0
        rw [h0]
        exact hq
      haveI : Inhabited St := ⟨st0⟩
      obtain ⟨f, hf⟩ := Deep.choose_lt one
      obtain ⟨b, off, spot⟩ := a
      have hspot : spot = none := by
        have := (hf 0 (by omega)).1 0 _ rfl
        simpa [Addr.add] using World.cell?_spot this
      subst hspot
      have hlen : ((List.range len).map f).length = len := by simp
      have hget : ∀ j, j < len → ((List.range len).map f).getD j st0 = f j := fun j hj => by
        rw [List.getD_eq_getElem?_getD, List.getElem?_map, List.getElem?_range hj]; rfl
      have hc0 := (hf 0 (by omega)).1 0 _ rfl
      rw [add_plain] at hc0
      refine ⟨(List.range len).map f, _, _, by rw [hlen], by omega, by omega, fun x hx => ?_, fun _ => ⟨b, off, rfl, trivial, cell_lt hc0, fun j hj q c hq => ?_⟩⟩
      · obtain ⟨j, hj, rfl⟩ := List.mem_map.1 hx
        exact (hf j (List.mem_range.1 hj)).2
      · rw [hlen] at hj
        rw [hget j hj] at hq
        have := (hf j hj).1 q c hq
        rw [add_plain] at this
        rw [Nat.add_assoc]
        exact this
/-- What is known of the types of orders: two slices of structs of three cells; an order is a struct of six. -/
structure Known (tO tN tE tS tY : TypeId) (f0 f1 f2 f3 f4 f5 g0 g1 g2 k0 k1 k2 : Field) : Prop where
  o : Tryz.prog.underlying tO = some (.struct #[f0, f1, f2, f3, f4, f5])
  n : Tryz.prog.underlying tN = some (.slice tS)
  e : Tryz.prog.underlying tE = some (.slice tY)
  s : Tryz.prog.underlying tS = some (.struct #[g0, g1, g2])
  y : Tryz.prog.underlying tY = some (.struct #[k0, k1, k2])
  types : [f0.type, f1.type, f2.type, f3.type, f4.type, f5.type] = [3, 9, 3, 3, tN, tE]
  places : [f0.offset, f1.offset, f2.offset, f3.offset, f4.offset, f5.offset] = [0, 1, 2, 3, 4, 5]
  gtypes : [g0.type, g1.type, g2.type] = [3, 3, 4]
  gplaces : [g0.offset, g1.offset, g2.offset] = [0, 1, 2]
  ktypes : [k0.type, k1.type, k2.type] = [3, 3, 4]
  kplaces : [k0.offset, k1.offset, k2.offset] = [0, 1, 2]
  co : Tryz.prog.cellsOf tO = 6
  cn : Tryz.prog.cellsOf tN = 1
  ce : Tryz.prog.cellsOf tE = 1
  cs : Tryz.prog.cellsOf tS = 3
  cy : Tryz.prog.cellsOf tY = 3
  bs : Tryz.prog.bytesOf tS = 24
  by_ : Tryz.prog.bytesOf tY = 24
set_option maxRecDepth 100000 in
/-- An order among the arguments. -/
theorem open_order_at {H : Type} {enc : TypeId × Value → H} {W : World} {base : Nat} {v : Value} {d : DataW H} {p : List MemPlace} {tO tN tE tS tY : TypeId} {f0 f1 f2 f3 f4 f5 g0 g1 g2 k0 k1 k2 : Field} (K : Known tO tN tE tS tY f0 f1 f2 f3 f4 f5 g0 g1 g2 k0 k1 k2)
    (hval : Value.okWide Tryz.prog W .any base tO v) (h : DataW.Trod enc Tryz.prog W 0 (fun _ => true) true tO v d p) (hw : Wt tO d) : ∃ x, OAt Any W v x := by
  obtain ⟨cs, rfl, hsz⟩ := okWide_struct K.o hval
  obtain ⟨fuel, hf⟩ := h
  obtain ⟨y0, y1, y2, y3, y4, y5, n', hx, hcl, t0, t1, t2, t3, t4, t5⟩ := trod_struct6O K.o hf
  have T := K.types
  have Pz := K.places
  have Gt := K.gtypes
  have Gp := K.gplaces
  have Kt := K.ktypes
  have Kp := K.kplaces
  simp only [List.cons.injEq, and_true] at T Pz Gt Gp Kt Kp
  obtain ⟨T0, T1, T2, T3, T4, T5⟩ := T
  obtain ⟨P0, P1, P2, P3, P4, P5⟩ := Pz
  obtain ⟨G0, G1, G2⟩ := Gt
  obtain ⟨Q0, Q1, Q2⟩ := Gp
  obtain ⟨K0, K1, K2⟩ := Kt
  obtain ⟨R0, R1, R2⟩ := Kp
  rw [K.co] at hcl
  rw [T0, P0] at t0
  rw [T1, P1] at t1
  rw [T2, P2] at t2
  rw [T3, P3] at t3
  rw [T4, P4, K.cn] at t4
  rw [T5, P5, K.ce] at t5
  simp only [cellsInt, cellsStr] at t0 t1 t2 t3
  simp only [Value.cells] at hcl t0 t1 t2 t3 t4 t5
  obtain ⟨l⟩ := cs
  simp only at hcl t0 t1 t2 t3 t4 t5
  match l, hcl with
  | [c0, c1, c2, c3, c4, c5], _ =>
    have hx' : d = .agg [y0.1, y1.1, y2.1, y3.1, y4.1, y5.1] := hx
    subst hx'
    obtain ⟨s, e1, hy1, hs⟩ := DataW.trod_string Tryz.underlying9 t1
    obtain ⟨a, e0, -, w0⟩ := DataW.trod_int Tryz.underlying3 t0
    obtain ⟨b, e2, -, w2⟩ := DataW.trod_int Tryz.underlying3 t2
    obtain ⟨c, e3, -, w3⟩ := DataW.trod_int Tryz.underlying3 t3
    simp at e0 e1 e2 e3 t4 t5
    subst e0 e1 e2 e3
    have hw1 := wt_part K.o hw (j := 1) (tj := 9) (by simp [T1]) rfl
    rw [hy1] at hw1
    have hsl := wt_string hw1
    obtain ⟨ns, hns⟩ := sts_trod K.n K.s G0 G1 G2 Q0 Q1 Q2 K.cs K.bs t4 (wt_part K.o hw (j := 4) (by simp [T4]) rfl)
    obtain ⟨es, hes⟩ := sts_trod K.e K.y K0 K1 K2 R0 R1 R2 K.cy K.by_ t5 (wt_part K.o hw (j := 5) (by simp [T5]) rfl)
    exact ⟨⟨a, s.data.toList, b, c, ns, es⟩, c4, c5, rfl, i64B_of' w0, by simp at hsl ⊢; omega, i64B_of' w2, i64B_of' w3, hns, hes⟩
set_option maxRecDepth 100000 in
theorem known : ∃ f0 f1 f2 f3 f4 f5 g0 g1 g2 k0 k1 k2, Known 25 22 23 68 70 f0 f1 f2 f3 f4 f5 g0 g1 g2 k0 k1 k2 :=
  ⟨_, _, _, _, _, _, _, _, _, _, _, _, ⟨Tryz.underlying25, Tryz.underlying22, Tryz.underlying23, Tryz.underlying68, Tryz.underlying70, rfl, rfl, rfl, rfl, rfl, rfl, by kernel_rfl, by kernel_rfl, by kernel_rfl, by kernel_rfl, by kernel_rfl, by kernel_rfl, by kernel_rfl⟩⟩
set_option maxRecDepth 100000 in
theorem open_order {H : Type} {enc : TypeId × Value → H} {W : World} {base : Nat} {v : Value} {d : DataW H} {p : List MemPlace} (hval : Value.okWide Tryz.prog W .any base 25 v) (h : DataW.Trod enc Tryz.prog W 0 (fun _ => true) true 25 v d p) (hw : Wt 25 d) : ∃ x, OAt Any W v x := by
  obtain ⟨_, _, _, _, _, _, _, _, _, _, _, _, K⟩ := known
  exact open_order_at K hval h hw
end Go.Proofs.YtcpggmdiojaalaaGreatDoor.Od
