import Derived.Test.YtcpggmdiojaalaaGreatDoorMAe
import Derived.Test.YtcpggmdiojaalaaGreatDoorMF
/- What opens the arguments of stage 9's laws: states. -/
set_option linter.unusedVariables false
set_option linter.unusedSimpArgs false
set_option linter.constructorNameAsVariable false
namespace Go.Proofs.YtcpggmdiojaalaaGreatDoor.Sta
open Go.ChangeShapes Go.WideShapes Go.ChangeAt Go.RowKit Js Lex Od

theorem byte_of {n : Int} (h : (Lit.int .u8 n).wf = true) : ∃ c : UInt8, n = (c.toNat : Int) := by
  obtain ⟨h0, h1⟩ := bounds_u8 h
  refine ⟨UInt8.ofNat n.toNat, ?_⟩
  rw [UInt8.toNat_ofNat']
  omega
theorem trod_struct10 {H : Type} {enc : TypeId × Value → H} {P : Program} {w : World} {base : Nat} {spare : Nat → Bool} {held : Bool} {t : TypeId} {f0 f1 f2 f3 f4 f5 f6 f7 f8 f9 : Field} {fuel : Nat} {cs : List Value} {x : DataW H × List MemPlace} (ht : P.underlying t = some (.struct #[f0, f1, f2, f3, f4, f5, f6, f7, f8, f9])) (h : DataW.trod enc P w base spare held fuel t cs = some x) :
    ∃ y0 y1 y2 y3 y4 y5 y6 y7 y8 y9 n, x.1 = .agg [y0.1, y1.1, y2.1, y3.1, y4.1, y5.1, y6.1, y7.1, y8.1, y9.1] ∧ cs.length = P.cellsOf t ∧ DataW.trod enc P w base spare held n f0.type ((cs.drop f0.offset).take (P.cellsOf f0.type)) = some y0 ∧ DataW.trod enc P w base spare held n f1.type ((cs.drop f1.offset).take (P.cellsOf f1.type)) = some y1 ∧ DataW.trod enc P w base spare held n f2.type ((cs.drop f2.offset).take (P.cellsOf f2.type)) = some y2 ∧ DataW.trod enc P w base spare held n f3.type ((cs.drop f3.offset).take (P.cellsOf f3.type)) = some y3 ∧ DataW.trod enc P w base spare held n f4.type ((cs.drop f4.offset).take (P.cellsOf f4.type)) = some y4 ∧ DataW.trod enc P w base spare held n f5.type ((cs.drop f5.offset).take (P.cellsOf f5.type)) = some y5 ∧ DataW.trod enc P w base spare held n f6.type ((cs.drop f6.offset).take (P.cellsOf f6.type)) = some y6 ∧ DataW.trod enc P w base spare held n f7.type ((cs.drop f7.offset).take (P.cellsOf f7.type)) = some y7 ∧ DataW.trod enc P w base spare held n f8.type ((cs.drop f8.offset).take (P.cellsOf f8.type)) = some y8 ∧ DataW.trod enc P w base spare held n f9.type ((cs.drop f9.offset).take (P.cellsOf f9.type)) = some y9 := by
  obtain ⟨xs, n, _, rfl, hl, hlen, hf⟩ := DataW.trod_struct ht h
  match xs, hlen with
  | [y0, y1, y2, y3, y4, y5, y6, y7, y8, y9], _ => exact ⟨y0, y1, y2, y3, y4, y5, y6, y7, y8, y9, n, by simp, hl, by simpa using hf 0 f0 rfl, by simpa using hf 1 f1 rfl, by simpa using hf 2 f2 rfl, by simpa using hf 3 f3 rfl, by simpa using hf 4 f4 rfl, by simpa using hf 5 f5 rfl, by simpa using hf 6 f6 rfl, by simpa using hf 7 f7 rfl, by simpa using hf 8 f8 rfl, by simpa using hf 9 f9 rfl⟩
/-- What is known of the type of states. -/
structure KnownT (t : TypeId) (f0 f1 f2 f3 f4 f5 f6 f7 f8 f9 : Field) : Prop where
  o : Tryz.prog.underlying t = some (.struct #[f0, f1, f2, f3, f4, f5, f6, f7, f8, f9])
  types : [f0.type, f1.type, f2.type, f3.type, f4.type, f5.type, f6.type, f7.type, f8.type, f9.type] = [3, 3, 9, 3, 3, 4, 3, 3, 4, 3]
  places : [f0.offset, f1.offset, f2.offset, f3.offset, f4.offset, f5.offset, f6.offset, f7.offset, f8.offset, f9.offset] = [0, 1, 2, 3, 4, 5, 6, 7, 8, 9]
  c : Tryz.prog.cellsOf t = 10
set_option maxRecDepth 100000 in
theorem open_state_at {H : Type} {enc : TypeId × Value → H} {W : World} {base : Nat} {v : Value} {d : DataW H} {p : List MemPlace} {t : TypeId} {f0 f1 f2 f3 f4 f5 f6 f7 f8 f9 : Field} (K : KnownT t f0 f1 f2 f3 f4 f5 f6 f7 f8 f9)
    (hval : Value.okWide Tryz.prog W .any base t v) (h : DataW.Trod enc Tryz.prog W 0 (fun _ => true) true t v d p) (hw : Wt t d) : ∃ x : S9, v = sV x ∧ x.ok := by
  obtain ⟨cs, rfl, hsz⟩ := okWide_struct K.o hval
  obtain ⟨fuel, hf⟩ := h
  obtain ⟨y0, y1, y2, y3, y4, y5, y6, y7, y8, y9, n', hx, hcl, t0, t1, t2, t3, t4, t5, t6, t7, t8, t9⟩ := trod_struct10 K.o hf
  have T := K.types
  have Pz := K.places
  simp only [List.cons.injEq, and_true] at T Pz
  obtain ⟨T0, T1, T2, T3, T4, T5, T6, T7, T8, T9⟩ := T
  obtain ⟨P0, P1, P2, P3, P4, P5, P6, P7, P8, P9⟩ := Pz
  rw [K.c] at hcl
  rw [T0, P0] at t0
  rw [T1, P1] at t1
  rw [T2, P2] at t2
  rw [T3, P3] at t3
  rw [T4, P4] at t4
  rw [T5, P5] at t5
  rw [T6, P6] at t6
  rw [T7, P7] at t7
  rw [T8, P8] at t8
  rw [T9, P9] at t9
  simp only [cellsInt, cellsStr, cellsBool] at t0 t1 t2 t3 t4 t5 t6 t7 t8 t9
  simp only [Value.cells] at hcl t0 t1 t2 t3 t4 t5 t6 t7 t8 t9
  obtain ⟨l⟩ := cs
  simp only at hcl t0 t1 t2 t3 t4 t5 t6 t7 t8 t9
  match l, hcl with
  | [c0, c1, c2, c3, c4, c5, c6, c7, c8, c9], _ =>
    have hx' : d = .agg [y0.1, y1.1, y2.1, y3.1, y4.1, y5.1, y6.1, y7.1, y8.1, y9.1] := hx
    subst hx'
    obtain ⟨a0, e0, -, w0⟩ := DataW.trod_int Tryz.underlying3 t0
    obtain ⟨a1, e1, -, w1⟩ := DataW.trod_int Tryz.underlying3 t1
    obtain ⟨a2, e2, hy1, hs⟩ := DataW.trod_string Tryz.underlying9 t2
    obtain ⟨a3, e3, -, w3⟩ := DataW.trod_int Tryz.underlying3 t3
    obtain ⟨a4, e4, -, w4⟩ := DataW.trod_int Tryz.underlying3 t4
    obtain ⟨a5, e5, -⟩ := DataW.trod_bool Tryz.underlying4 t5
    obtain ⟨a6, e6, -, w6⟩ := DataW.trod_int Tryz.underlying3 t6
    obtain ⟨a7, e7, -, w7⟩ := DataW.trod_int Tryz.underlying3 t7
    obtain ⟨a8, e8, -⟩ := DataW.trod_bool Tryz.underlying4 t8
    obtain ⟨a9, e9, -, w9⟩ := DataW.trod_int Tryz.underlying3 t9
    simp at e0 e1 e2 e3 e4 e5 e6 e7 e8 e9
    subst e0 e1 e2 e3 e4 e5 e6 e7 e8 e9
    have hw1 := wt_part K.o hw (j := 2) (tj := 9) (by simp [T2]) rfl
    rw [hy1] at hw1
    have hsl := wt_string hw1
    exact ⟨⟨a0, a1, a2.data.toList, a3, a4, a5, a6, a7, a8, a9⟩, rfl, ⟨i64B_of' w0, i64B_of' w1, i64B_of' w3, i64B_of' w4, i64B_of' w6, i64B_of' w7, i64B_of' w9, by simp at hsl ⊢; omega⟩⟩
set_option maxRecDepth 100000 in
theorem knownT : ∃ f0 f1 f2 f3 f4 f5 f6 f7 f8 f9, KnownT 53 f0 f1 f2 f3 f4 f5 f6 f7 f8 f9 := ⟨_, _, _, _, _, _, _, _, _, _, ⟨Tryz.underlying53, rfl, rfl, by kernel_rfl⟩⟩
set_option maxRecDepth 100000 in
theorem open_state {H : Type} {enc : TypeId × Value → H} {W : World} {base : Nat} {v : Value} {d : DataW H} {p : List MemPlace} (hval : Value.okWide Tryz.prog W .any base 53 v) (h : DataW.Trod enc Tryz.prog W 0 (fun _ => true) true 53 v d p) (hw : Wt 53 d) : ∃ x : S9, v = sV x ∧ x.ok := by
  obtain ⟨_, _, _, _, _, _, _, _, _, _, K⟩ := knownT
  exact open_state_at K hval h hw
end Go.Proofs.YtcpggmdiojaalaaGreatDoor.Sta
