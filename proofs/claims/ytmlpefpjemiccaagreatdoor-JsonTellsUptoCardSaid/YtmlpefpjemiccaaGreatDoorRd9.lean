import Derived.Test.YtmlpefpjemiccaaGreatDoorRd8
/- The contracts of value and Parse. -/
set_option linter.unusedVariables false
set_option linter.unusedSimpArgs false
namespace Go.Proofs.YtmlpefpjemiccaaGreatDoor.Js
open Go.RowKit Lex

theorem begun_form (x : Tok) : begunS x = .mk (begunS x).k (begunS x).m (begunS x).e (begunS x).t [] [] := by
  unfold begunS
  split
  · rfl
  · split
    · rfl
    · split <;> rfl
theorem leaf_jat {S : Nat → Prop} {w : World} {d : Nat} {k m e : Int} {t : List UInt8} (hk : i64B k) (hm : i64B m) (he : i64B e) (ht : txtB t) : JAt S w (d + 1) (bareV k m e t) (.mk k m e t [] []) :=
  ⟨.slice none 0 0, none, 0, rfl, hk, hm, he, ht, ⟨none, 0, rfl, by simp, by simp, fun x hx => by simp at hx, fun h => by simp at h⟩, by simp, by simp, fun h => by simp at h⟩
theorem begun_jat {S : Nat → Prop} {w : World} {d : Nat} {x : Tok} (h : TokG 1099511627776 x) : JAt S w (d + 1) (begunV x) (begunS x) := by
  have z : i64B 0 := ⟨by decide, by decide⟩
  rw [begun_form x]
  refine leaf_jat ?_ ?_ ?_ ?_
  all_goals
    unfold begunS
    split
    · first | exact ⟨by simp [J.k], by simp [J.k]⟩ | exact z | exact h.len
    · split
      · rename_i h3
        obtain ⟨q1, q2, q3, q4⟩ := Dec.rightB_bounds (h.num h3)
        first | exact ⟨by simp [J.k], by simp [J.k]⟩ | exact ⟨by simp [J.m]; omega, by simp [J.m]; omega⟩ | exact ⟨by simp [J.e]; omega, by simp [J.e]; omega⟩ | (unfold txtB; simp [J.t])
      · split
        · first
            | (rcases kind_cases x.t with q | q | q | q | q | q <;> (simp only [J.k, q]; exact ⟨by decide, by decide⟩))
            | exact z | (unfold txtB; simp [J.t])
        · first | exact z | (unfold txtB; simp [j0, J.t])
theorem zero_jat {S : Nat → Prop} {w : World} {d : Nat} : JAt S w (d + 1) (bareV 0 0 0 []) j0 := leaf_jat ⟨by decide, by decide⟩ ⟨by decide, by decide⟩ ⟨by decide, by decide⟩ (by unfold txtB; simp)

theorem vret_fin2 {w w1 : World} {rb bt cap bres base n : Nat} {ts : List Tok} {RR : R} {k m e : Int} {t : ByteArray} {a a' : Option Addr} {nn c nn' c' : Nat} {E : Int}
    (hc : Chg (· = rb) w w1) (hR : Rd w1 rb bt cap ts RR.l) (h1 : w.heap.size ≤ bres) (h2 : bres < base) (h3 : rb < w.heap.size) (h4 : bt < w.heap.size) (hE : RR.er = E)
    (hJ : E = 0 → JAt (fun b => base ≤ b) w1 n (.agg #[.int .i64 k, .int .i64 m, .int .i64 e, .string t, .slice a nn c, .slice a' nn' c']) RR.j) (c0 c1 c2 c3 c4 c5 : Value) :
    VRet w rb bt cap ts n RR (.returned (.tuple #[.agg #[.int .i64 k, .int .i64 m, .int .i64 e, .string t, .slice a nn c, .slice a' nn' c'], .int .i64 E])) (put6 w1 bres 0 c0 c1 c2 c3 c4 c5) :=
  vret_fin (Below.refl _ _) (fun _ _ h => h) hc hR h1 h2 h3 h4 hE (by omega) hJ c0 c1 c2 c3 c4 c5
theorem VRet.alloc {w w1 : World} {rb bt cap n : Nat} {ts : List Tok} {RR : R} {e : Ending} (h : VRet w rb bt cap ts n RR e w1) (o : Obj) : VRet w rb bt cap ts n RR e (w1.alloc o) := by
  obtain ⟨k, m, e1, t, an, nn, cn, ai, ni, ci, rfl, hR, hc, hJ⟩ := h
  have hb : Below w1.heap.size w1 (w1.alloc o) := (Below.refl _ _).alloc (Nat.le_refl _) _
  exact ⟨k, m, e1, t, an, nn, cn, ai, ni, ci, rfl, hR.below hb, hc.alloc o, fun h0 => (hJ h0).below hb (Nat.le_refl _)⟩
theorem cell_alloc_old (w : World) (o : Obj) (b i : Nat) (h : b < w.heap.size) : (w.alloc o).cell? ⟨b, i, none⟩ = w.cell? ⟨b, i, none⟩ := World.cell?_of_block (w := w) (a := ⟨b, i, none⟩) (Below.heap_alloc _ _ _ h)
theorem size_set (w : World) (a : Addr) (u : Value) : (w.setCell a u).heap.size = w.heap.size := by simp [World.setCell]
theorem res_block {w w1 w2 : World} {cs : Array Value} {T : TypeId} (hb1 : Below (w.alloc (.cells cs T)).heap.size (w.alloc (.cells cs T)) w1) (hb2 : Below w1.heap.size w1 w2) : w2.heap[w.heap.size]? = some (.cells cs T (0, 0)) ∧ w.heap.size < w2.heap.size ∧ Below w.heap.size w w2 := by
  have h1 := hb1.size
  have h2 := hb2.size
  simp at h1
  refine ⟨by rw [hb2.block _ (by omega), hb1.block _ (by simp)]; exact heap_alloc_new w _, by omega, (((Below.refl _ _).alloc (Nat.le_refl _) _).trans (hb1.mono (by simp))).trans (hb2.mono (by omega))⟩

set_option maxHeartbeats 4000000 in
set_option maxRecDepth 100000 in
theorem value_zero : ValOk 0 := by
  intro w rb bt cap ts l hR
  obtain ⟨x, l, rfl⟩ := ex_cons hR.fin
  have hb0 : ∀ o, Below w.heap.size w (w.alloc o) := fun o => (Below.refl _ _).alloc (Nat.le_refl _) _
  have HB0 := Lib.hid hb0
  have H1 := Lib.hid (fun o => here_any (hR.below (HB0.out o)))
  have G1 := Lib.hid (fun w => begun_any x w)
  have hrl := hR.lt
  have htl := hR.blt
  have HR := Lib.hid hR
  rw [valS, show ((17 - 0 : Nat) : Int) = 17 from rfl]
  obtain ⟨RR, HRR⟩ : ∃ RR : R, Hid ((⟨if (begunS x).k = 0 then 40 else 41, j0, x :: l⟩ : R) = RR) := ⟨_, rfl⟩
  rw [HRR.out]
  unfold tokV at H1 G1
  unfold begunV bareV at G1
  clear hR hb0
  generalize (begunS x).k = K at *
  generalize (begunS x).m = M at *
  generalize (begunS x).e = E at *
  generalize (begunS x).t = T at *
  by_cases hK : K = 0
  · subst hK
    simp only [if_true] at HRR
    go_enter Tryz.func26, Tryz.ntmps26
    go_wp2_with (first
      | (go_at_call 27; (with_reducible refine (H1.out _).mono ?_); rintro e1 w1 ⟨rfl, hb1⟩)
      | (go_at_call 47; (with_reducible refine (G1.out _).mono ?_); rintro e2 w2 ⟨rfl, hb2⟩; obtain ⟨hres, hl2, hbw⟩ := res_block hb1 hb2; obtain ⟨z0, z1, z2, z3, z4, z5⟩ := six_of hres; have f0 := free_of hres 0; have f1 := free_of hres 1; have f2 := free_of hres 2; have f3 := free_of hres 3; have f4 := free_of hres 4; have f5 := free_of hres 5))
    refine bodyPost_ret (v := .tuple #[.agg #[.int .i64 0, .int .i64 0, .int .i64 0, .string ⟨#[]⟩, .slice none 0 0, .slice none 0 0], .int .i64 40]) (by simp [results, Tryz.results26, go_sem, cell_alloc_old, size_set, hl2, z0, z1, z2, z3, z4, z5]) rfl ?_
    exact (vret_fin2 (base := w.heap.size + 1) (.of_below hbw) (by rw [← HRR.out]; exact HR.out.below hbw) (Nat.le_refl _) (by omega) hrl htl (by rw [← HRR.out]) (fun h => absurd h (by decide)) _ _ _ _ _ _).alloc _
  · have hne : (K == 0) = false := by simpa using hK
    rw [if_neg hK] at HRR
    go_enter Tryz.func26, Tryz.ntmps26
    go_wp2_with (first
      | (go_at_call 27; (with_reducible refine (H1.out _).mono ?_); rintro e1 w1 ⟨rfl, hb1⟩)
      | (go_at_call 47; (with_reducible refine (G1.out _).mono ?_); rintro e2 w2 ⟨rfl, hb2⟩; obtain ⟨hres, hl2, hbw⟩ := res_block hb1 hb2; obtain ⟨z0, z1, z2, z3, z4, z5⟩ := six_of hres; have f0 := free_of hres 0; have f1 := free_of hres 1; have f2 := free_of hres 2; have f3 := free_of hres 3; have f4 := free_of hres 4; have f5 := free_of hres 5))
    refine bodyPost_ret (v := .tuple #[.agg #[.int .i64 0, .int .i64 0, .int .i64 0, .string ⟨#[]⟩, .slice none 0 0, .slice none 0 0], .int .i64 41]) (by simp [results, Tryz.results26, go_sem, cell_alloc_old, size_set, hl2, z0, z1, z2, z3, z4, z5]) rfl ?_
    exact (vret_fin2 (base := w.heap.size + 1) (.of_below hbw) (by rw [← HRR.out]; exact HR.out.below hbw) (Nat.le_refl _) (by omega) hrl htl (by rw [← HRR.out]) (fun h => absurd h (by decide)) _ _ _ _ _ _).alloc _
end Go.Proofs.YtmlpefpjemiccaaGreatDoor.Js
